import PyProof.Rows.All
import Wide.All
import OpenK.AllK
import Wide.FinOn
import HandS.ForMost
import HandS.Exc
import HandS.ExcInit
import HandS.IsInst
import HandS.TupAny
import HandS.Conv
import HandS.Wide
import HandS.Deep
import KE.KExcIs
import HandS.Gcd
import HandS.Evl
import HandS.Walk
import HandS.SlotsOwn
import HandS.OwnEq
import KE.KOpsOwn
import PyProof.TwoTypes
import PyProof.EqKinds
import HandS.ExcValue
import HandS.Lambda
import HandS.EndTab
import HandS.ClsMeth
import HandS.Property
import HandS.Codes
import HandS.StrMore
import KE.OsScanText
import KE.IntTextLaws
import HandS.Comp
import HandS.Nested
import PyProof.InstNe
import HandS.Defaults
import KE.GoesMore
import KE.GoesEnum
import HandS.Zip
import KE.GoesEnumKw
import HandS.WordsExc
import HandS.NoneIn
import PyProof.EnumMake
import HandS.TupSets
import HandS.Style
import KE.KDictZip
import HandS.GenBody
import HandS.TupMul
import PySem.Challenge.RW_seenabout_k17_lands
set_option Elab.async false
set_option linter.all false
set_option maxRecDepth 100000
set_option maxHeartbeats 4000000
/-! A layer over HandS: defs that are entered while nothing shows itself (so that repr may be told). -/
namespace G
open PySem PySem.Spec PyProof.Rows L2

abbrev Quiet (A : Around) : Prop := A.guards = some []

structure Fn (P : Program) (w : World) (K : PySem.W.Frag) (mg : Str → Option Value) (base : Heap) (CX : CXT) (k : Nat) (f : Addr) (fd : FuncData) (ps : List Str) (sp : Sp) : Prop where
  len : ∀ vs H Q E, sp vs H Q E → vs.length = ps.length
  run : ∀ (A : Around) (outer : List Env) (s : Shared) (H : Hp) (args : Args) (us : List Value) (vs : List V) (Q : VK) (E : XK), Quiet A → Room k A →
    Env0 P w K mg base A outer s H → BindsTo s fd args (ps.zip us) → Vals vs us → sp vs H Q E → codeAny (model P w) A (.call (.ref f) args) (CR CX outer P w H s Q E) s

section
variable {P : Program} {w : World} {K : PySem.W.Frag} {mg : Str → Option Value} {base : Heap} {CX : CXT}
theorem Fn.mono {j k : Nat} {f : Addr} {fd : FuncData} {ps : List Str} {sp : Sp} (F : Fn P w K mg base CX j f fd ps sp) (h : j ≤ k) : Fn P w K mg base CX k f fd ps sp :=
  ⟨F.len, fun A outer s H args us vs Q E hq hr => F.run A outer s H args us vs Q E hq (hr.mono h)⟩
/-- what is told of all surroundings is told of quiet ones -/
theorem Fn.ofOk {k : Nat} {f : Addr} {fd : FuncData} {ps : List Str} {sp : Sp} (F : FnOk P w K mg base CX k f fd ps sp) : Fn P w K mg base CX k f fd ps sp :=
  ⟨F.len, fun A outer s H args us vs Q E _ hr => F.run A outer s H args us vs Q E hr⟩

theorem fnOf {k : Nat} {f : Addr} {name qual : Str} {params : Arguments} {body : List Stmt} {scope : Scope} {kV doc pm cdv ct oc : Value} {an od : Option Addr} {osl : Array (Option Value)} {N ps : List Str} {sp : Sp}
    (lk : K.lookup f = some ⟨oc, od, .func (PySem.W.fnOf name qual params body scope .none kV doc pm an cdv ct), osl⟩) (hcd : PySem.W.codeIn K cdv qual = true)
    (S : FnScope N ps scope) (len : ∀ vs H Q E, sp vs H Q E → vs.length = ps.length)
    (body_ok : ∀ (A : Around) (outer : List Env) (s : Shared) (H : Hp) (vs : List V) (Q : VK) (E : XK), Quiet A → Room k (A.deeper (envOfC qual scope s.heap.objs.size f cdv)) → sp vs H Q E →
      ∃ t, PSs (cxOf CX P w K mg base N qual scope f cdv A outer s H E) body t ∧ t { nx := fun _ H' => Q .non H', rt := Q } (start N vs) H) :
    Fn P w K mg base CX (k + 1) f (PySem.W.fnOf name qual params body scope .none kV doc pm an cdv ct) ps sp := by
  constructor
  · exact len
  intro A outer s H args us vs Q E hq hr e0 hb r hsp
  have hl : vs.length = ps.length := len _ _ _ _ hsp
  have inS : K.In s.heap := e0.mod.kin.keeps (fun b o e => (e0.bs b o e).1)
  have noL : s.heap.NoLimit := e0.mod.nolimit.keeps (fun b o e => (e0.bs b o e).1)
  have kinds : ∀ y ∈ ps.zip us, scope.names.lookup y.1 = some .local ∨ (scope.names.lookup y.1 = some .cell ∧ ((cellsFrom (s.heap.objs.size + 1) scope.names []).lookup y.1).isSome = true) := by
    rintro ⟨n, v⟩ hy
    cases S.par n (List.of_mem_zip hy).1 with
    | inl q => exact Or.inl q
    | inr q => exact Or.inr ⟨q, PySem.W.cellsFrom_some _ _ _ (Or.inl q)⟩
  apply codeAny_call_function hr.depth (inS _ _ lk) rfl S.co S.gen rfl (PySem.W.codeRec_of inS hcd)
  refine hb _ _ _ _ (wpAny_newFunctionEnv_cells S.kind kinds ?_)
  intro env he s1 x
  cases he
  constructor
  · exact noL.keeps x.toInCall.keep
  apply codeAny_func
  obtain ⟨t, ht, q0⟩ := body_ok A outer s H vs Q E hq (hr.deeper _) hsp
  have I := inv_start (CX := CX) (P := P) (w := w) (K := K) (mg := mg) (base := base) (E := E) S hr.hd e0 hl r x
  apply wpAny_mono (ht.run [] s1 (start N vs) H _ I q0)
  · intro fl s' hs
    cases fl with
    | ret u => obtain ⟨v, σ', H', J, rv, q⟩ := hs; exact ⟨v, H', J.os, J.bare, J.base, J.hok, rv, q⟩
    | next => obtain ⟨σ', H', J, q⟩ := hs; exact ⟨V.non, H', J.os, J.bare, J.base, J.hok, rfl, q⟩
    | brk => exact hs.elim fun _ z => z.elim fun _ z => z.2.elim
    | cont => exact hs.elim fun _ z => z.elim fun _ z => z.2.elim
  · intro e s' hs
    exact hs

theorem ok {x qual : Str} {st : Stmt} {f : Addr} {fd : FuncData} {N ps : List Str} {k : Nat} {sp : Sp} (F : Fun K x qual st f fd) (S : FnScope N ps (defScope st)) (len : ∀ vs H Q E, sp vs H Q E → vs.length = ps.length)
    (body_ok : ∀ (cdv : Value) (A : Around) (outer : List Env) (s : Shared) (H : Hp) (vs : List V) (Q : VK) (E : XK), Quiet A → Room k (A.deeper (envOfC qual (defScope st) s.heap.objs.size f cdv)) → sp vs H Q E →
      ∃ t, PSs (cxOf CX0 P w K mg base N qual (defScope st) f cdv A outer s H E).nox (defBody st) t ∧ t { nx := fun _ H' => Q .non H', rt := Q } (start N vs) H) :
    Fn P w K mg base CX0 (k + 1) f fd ps sp := by
  obtain ⟨_, _, _, _, _, _, cdv, _, _, rfl, lk, hcd⟩ := F.ex
  apply fnOf lk hcd S len
  intro A outer s H vs Q E hq hr hsp
  obtain ⟨t, h, q⟩ := body_ok cdv A outer s H vs Q E hq hr hsp
  exact ⟨t, h.nox, q⟩
end

section
variable {X : Cx} {CX : CXT} {k : Nat} {f C : Addr} {fd : FuncData} {ps : List Str} {sp : Sp} {dvs : List V} {ds : List Value} {E : XK} {x m : Str} {p pos apos : Pos} {e o : Expr} {es : List Expr} {ta : TE} {t : TA}
theorem runFn {pins : List (Addr × Obj)} {σ : L2.St} {H : Hp} {s : Shared} {Q : VK} {us : List Value} {vs : List V} (F : Fn X.prog X.w X.K X.mg X.base CX k f fd ps sp) (hq : Quiet X.A) (hr : Room k X.A) (hb : Binds X.K fd ps ds) (hd : Vals dvs ds)
    (hx : Passes CX X E) (I : Inv X pins σ H s) (r : Vals vs us) (h : sp (vs ++ dvs) H Q E) : wpAny (model X.prog X.w) X.A (call (.ref f) us) (EP X pins σ Q) X.xe s := by
  have r2 : Vals (vs ++ dvs) (us ++ ds) := r.append hd
  have hl : (us ++ ds).length = ps.length := r2.length.symm.trans (F.len _ _ _ _ h)
  apply wpAny_call
  apply codeAny_mono (F.run X.A X.stack s H ⟨us, []⟩ (us ++ ds) (vs ++ dvs) Q E hq hr I.env0 (hb s us I.kIn hl) r2 h)
  intro res s' done
  match res, done with
  | .error e, z => exact hx pins σ H s e s' I z
  | .ok (.ret u), z => exact I.after z
  | .ok .next, z => exact z.elim
  | .ok .brk, z => exact z.elim
  | .ok .cont, z => exact z.elim
/-- f(e, ..) -/
theorem pe_fn (F : Fn X.prog X.w X.K X.mg X.base CX k f fd ps sp) (hq : Quiet X.A) (hr : Room k X.A) (hg : Gl X x) (hm : X.mg x = some (.ref f)) (hk : PySem.W.keepIn X.K (.ref f) = true) (hb : Binds X.K fd ps ds) (hd : Vals dvs ds) (hx : Passes CX X E)
    (ha : PA X (e :: es) t) (hdb : (x == ("__debug__" : Str)) = false := by decide) (he : starEach (e :: es) X.env = (false, eval e X.env) :: starEach es X.env := by rfl) (hpl : (backTo pos (starEach es X.env)).any (·.1) = false := by rfl) :
    PE X (.Call (.Name x p) (e :: es) [] pos) (tCall sp dvs E t) := by
  constructor
  intro pins s σ H Q I h
  apply wpAny_Call_Name_kw
  apply ld_glob I hg hm _ hdb
  apply PySem.W.callWith_K (h₀ := X.base) I.ok.mod.kin hk _ he hpl
  apply thn (ha.run pos pins s σ H _ I h)
  rintro us s1 ⟨vs, H1, I1, r, q⟩
  exact ⟨I1.kIn, runFn F hq hr hb hd hx I1 r q⟩
/-- f() -/
theorem pe_fn0 (F : Fn X.prog X.w X.K X.mg X.base CX k f fd ps sp) (hq : Quiet X.A) (hr : Room k X.A) (hg : Gl X x) (hm : X.mg x = some (.ref f)) (hk : PySem.W.keepIn X.K (.ref f) = true) (hb : Binds X.K fd ps ds) (hd : Vals dvs ds) (hx : Passes CX X E)
    (hdb : (x == ("__debug__" : Str)) = false := by decide) : PE X (.Call (.Name x p) [] [] pos) (tCall sp dvs E tNil) := by
  constructor
  intro pins s σ H Q I h
  apply wpAny_Call_Name_kw
  apply ld_glob I hg hm _ hdb
  exact PySem.W.callWith_K0 I.kIn hk (runFn (us := []) F hq hr hb hd hx I .nil h)
end
end G

namespace G
open PySem PySem.Spec PyProof.Rows L2

/-! ### what a value of the abstract heap reads as, dicts with plain keys among it -/
def keyD : Key → PyData
  | .inl i => .int i
  | .inr x => .str x
mutual
inductive Da (H : Hp) : V → PyData → Prop
  | non : Da H .non .none
  | bl (b : Bool) : Da H (.bl b) (.bool b)
  | int (i : Int) : Da H (.int i) (.int i)
  | str (x : Str) : Da H (.str x) (.str x)
  | lst {a : Addr} {xs : List V} {ds : List PyData} : H a = some (.lst xs) → a ≠ sysModules → DaAll H xs ds → Da H (.ref a) (.list ds)
  | tup {a : Addr} {xs : List V} {ds : List PyData} : H a = some (.tup xs) → DaAll H xs ds → Da H (.ref a) (.tuple ds)
  | dct {a : Addr} {kvs : List (Key × V)} {ds : List PyData} : H a = some (.dK kvs) → DaAll H (kvs.map (·.2)) ds → Da H (.ref a) (.dict ((kvs.map fun p => keyD p.1).zip ds))
inductive DaAll (H : Hp) : List V → List PyData → Prop
  | nil : DaAll H [] []
  | cons {v : V} {vs : List V} {d : PyData} {ds : List PyData} : Da H v d → DaAll H vs ds → DaAll H (v :: vs) (d :: ds)
end
theorem DaAll.length {H : Hp} : ∀ {vs : List V} {ds : List PyData}, DaAll H vs ds → vs.length = ds.length
  | _, _, .nil => rfl
  | _, _, .cons _ t => congrArg (· + 1) (DaAll.length t)
mutual
theorem Da.same {H H' : Hp} (S : Same H H') : ∀ {v : V} {d : PyData}, Da H v d → Da H' v d
  | _, _, .non => .non
  | _, _, .bl b => .bl b
  | _, _, .int i => .int i
  | _, _, .str x => .str x
  | _, _, .lst e n t => .lst (S _ _ e) n (DaAll.same S t)
  | _, _, .tup e t => .tup (S _ _ e) (DaAll.same S t)
  | _, _, .dct e t => .dct (S _ _ e) (DaAll.same S t)
theorem DaAll.same {H H' : Hp} (S : Same H H') : ∀ {vs : List V} {ds : List PyData}, DaAll H vs ds → DaAll H' vs ds
  | _, _, .nil => .nil
  | _, _, .cons h t => .cons (Da.same S h) (DaAll.same S t)
end
theorem reads_keys {P : Program} {w : World} (h : Heap) : ∀ {es : List DictEntry} {kvs : List (Key × Value)}, Pairs (mixKind P w) es kvs → ReadsAll h (es.map (·.key)) (kvs.map fun p => keyD p.1) []
  | _, _, .nil => .nil
  | _, _, .cons (e := e) (kv := kv) hk _ t => by
    have h1 : Reads h e.key (keyD kv.1) [] := by
      rcases keyIs_shape (k := kv.1) (v := e.key) hk with ⟨i, t, e1, e2⟩ | ⟨x, t, e1, e2⟩
      · rw [e1, e2]; exact Reads.int i t
      · rw [e1, e2]; exact Reads.str x t
    exact ReadsAll.cons (as := []) (bs := []) h1 (reads_keys h t)
theorem vals_of_pairs {P : Program} {w : World} : ∀ {es : List DictEntry} {kvs : List (Key × Value)}, Pairs (mixKind P w) es kvs → es.map (·.val) = kvs.map (·.2)
  | _, _, .nil => rfl
  | _, _, .cons _ hv t => by rw [List.map_cons, List.map_cons, hv, vals_of_pairs t]
theorem KV.keys {kvs : List (Key × V)} {vs : List (Key × Value)} (r : KV kvs vs) : kvs.map (fun p => keyD p.1) = vs.map (fun p => keyD p.1) := by
  induction r with
  | nil => rfl
  | cons h _ ih => rw [List.map_cons, List.map_cons, h.1, ih]
theorem KV.valsV {kvs : List (Key × V)} {vs : List (Key × Value)} (r : KV kvs vs) : Vals (kvs.map (·.2)) (vs.map (·.2)) := by
  induction r with
  | nil => exact .nil
  | cons h _ ih => exact .cons h.2 ih

section
variable {X : Cx} {pins : List (Addr × Obj)} {σ : L2.St} {H : Hp} {s : Shared}
mutual
theorem Da.reads (I : Inv X pins σ H s) : ∀ {v : V} {d : PyData} {u : Value}, Da H v d → RelV v u → ∃ as, Reads s.heap u d as ∧ sysModules ∉ as
  | _, _, _, .non, r => by cases r; exact ⟨_, .none, by simp⟩
  | _, _, _, .bl b, r => by cases r; exact ⟨_, .bool b, by simp⟩
  | _, _, _, .int i, r => by obtain ⟨t, rfl⟩ := r; exact ⟨_, .int i t, by simp⟩
  | _, _, _, .str x, r => by obtain ⟨t, rfl⟩ := r; exact ⟨_, .str x t, by simp⟩
  | _, _, _, .lst e n t, r => by
    cases r
    obtain ⟨_, its, m, rv, ho⟩ := I.hok _ _ e
    obtain ⟨as, hr, hn⟩ := DaAll.reads I t rv
    exact ⟨_, .list ho rfl rfl hr, by simp only [List.mem_cons, not_or]; exact ⟨fun z => n z.symm, hn⟩⟩
  | _, _, _, .tup e t, r => by
    cases r
    obtain ⟨_, its, rv, o, ho, hc, m, hd⟩ := I.hok _ _ e
    obtain ⟨as, hr, hn⟩ := DaAll.reads I t rv
    exact ⟨_, .tuple ho hc hd hr, hn⟩
  | _, _, _, .dct (a := a) (kvs := kvs) (ds := ds) e t, r => by
    cases r
    obtain ⟨_, hs, vs, rel, o, es, ep, ho, hx, hd, hk, hp, _⟩ := I.hok _ _ e
    obtain ⟨bs, hr, hn⟩ := DaAll.reads I t (KV.valsV rel)
    have e1 : (((kvs.map fun p => keyD p.1).zip ds).map (·.1)) = vs.map fun p => keyD p.1 := by
      rw [List.map_fst_zip (by rw [List.length_map]; have := t.length; rw [List.length_map] at this; omega)]
      exact KV.keys rel
    have e2 : (((kvs.map fun p => keyD p.1).zip ds).map (·.2)) = ds :=
      List.map_snd_zip (by rw [List.length_map]; have := t.length; rw [List.length_map] at this; omega)
    refine ⟨_, .dict (as := []) (bs := bs) ho hx.1 hd ?_ ?_, ?_⟩
    · rw [e1]; exact reads_keys s.heap hp
    · rw [e2, vals_of_pairs hp]; exact hr
    · have : sysModules ≠ a := fun z => by rw [← z] at hs; exact absurd hs (by decide)
      simp only [List.append_nil, List.singleton_append, List.mem_cons, not_or]
      exact ⟨this, hn⟩
theorem DaAll.reads (I : Inv X pins σ H s) : ∀ {vs : List V} {ds : List PyData} {us : List Value}, DaAll H vs ds → Vals vs us → ∃ as, ReadsAll s.heap us ds as ∧ sysModules ∉ as
  | _, _, _, .nil, r => by cases r; exact ⟨_, .nil, by simp⟩
  | _, _, _, .cons h t, r => by
    cases r with
    | cons r1 r2 =>
      obtain ⟨as, q1, n1⟩ := Da.reads I h r1
      obtain ⟨bs, q2, n2⟩ := DaAll.reads I t r2
      exact ⟨_, .cons q1 q2, by rw [List.mem_append, not_or]; exact ⟨n1, n2⟩⟩
end
end

/-! ### data that is short enough to be shown -/
structure Gd (n k : Nat) (d : PyData) : Prop where
  short : d.leavesShort 13 = true
  show_ : d.showable = true
  depth : d.depth ≤ k
  weight : d.weight ≤ n
theorem Gd.mono {m n j k : Nat} {d : PyData} (g : Gd m j d) (h : m ≤ n) (h2 : j ≤ k) : Gd n k d := ⟨g.short, g.show_, Nat.le_trans g.depth h2, Nat.le_trans g.weight h⟩
theorem Gd.fits {n k : Nat} {d : PyData} (g : Gd n k d) (h : n ≤ 2 ^ 20) : d.shown.length ≤ sizeLine := PyData.shown_fits (by decide) (by decide) g.short (Nat.le_trans g.weight h)
/-- by a look: for written data -/
def gdB (n k : Nat) (d : PyData) : Bool := d.leavesShort 13 && (d.showable && (decide (d.depth ≤ k) && decide (d.weight ≤ n)))
theorem gdB_ok {n k : Nat} {d : PyData} (h : gdB n k d = true) : Gd n k d := by
  obtain ⟨h1, h⟩ := Bool.and_eq_true_iff.mp h
  obtain ⟨h2, h⟩ := Bool.and_eq_true_iff.mp h
  obtain ⟨h3, h4⟩ := Bool.and_eq_true_iff.mp h
  exact ⟨h1, h2, of_decide_eq_true h3, of_decide_eq_true h4⟩
theorem gd_all {n k : Nat} : ∀ {ds : List PyData}, (∀ d ∈ ds, Gd n k d) → PyData.leavesShortAll 13 ds = true ∧ PyData.showableAll ds = true ∧ PyData.depthAll ds ≤ k ∧ PyData.weightAll ds ≤ ds.length * (n + 1)
  | [], _ => ⟨by simp [PyData.leavesShortAll], by simp [PyData.showableAll], by simp [PyData.depthAll], by simp [PyData.weightAll]⟩
  | d :: ds, h => by
    obtain ⟨a, b, c, e⟩ := gd_all (fun x hx => h x (List.mem_cons_of_mem _ hx))
    have g := h d (List.mem_cons_self ..)
    refine ⟨by simp [PyData.leavesShortAll, g.short, a], by simp [PyData.showableAll, g.show_, b], ?_, ?_⟩
    · simp only [PyData.depthAll]; have := g.depth; omega
    · simp only [PyData.weightAll, List.length_cons, Nat.succ_mul]; have := g.weight; omega
theorem gd_tup {n k m N : Nat} {ds : List PyData} (h : ∀ d ∈ ds, Gd n k d) (hl : ds.length ≤ m) (hN : m * (n + 1) ≤ N) : Gd N (k + 1) (.tuple ds) := by
  obtain ⟨a, b, c, e⟩ := gd_all h
  have : ds.length * (n + 1) ≤ m * (n + 1) := Nat.mul_le_mul_right _ hl
  exact ⟨by simpa [PyData.leavesShort] using a, by simpa [PyData.showable] using b, by simp only [PyData.depth]; omega, by simp only [PyData.weight]; omega⟩
theorem gd_lst {n k m N : Nat} {ds : List PyData} (h : ∀ d ∈ ds, Gd n k d) (hl : ds.length ≤ m) (hN : m * (n + 1) ≤ N) : Gd N (k + 1) (.list ds) := by
  obtain ⟨a, b, c, e⟩ := gd_all h
  have : ds.length * (n + 1) ≤ m * (n + 1) := Nat.mul_le_mul_right _ hl
  exact ⟨by simpa [PyData.leavesShort] using a, by simpa [PyData.showable] using b, by simp only [PyData.depth]; omega, by simp only [PyData.weight]; omega⟩

section
variable {X : Cx}
/-- repr of data, where nothing shows itself -/
theorem call_reprD (hq : Quiet X.A) (hu : X.A.units + 64 < cLine) : CallR X (.builtin "repr") (fun xs H Q => ∃ v d n k, xs = [v] ∧ Da H v d ∧ Gd n k d ∧ (n ≤ 2 ^ 20 ∧ k ≤ 20) ∧ Q (.str d.shown) H) := by
  intro pins s σ H xs us Q I r h
  obtain ⟨v, d, n, k, rfl, hd, g, ⟨hn, hk⟩, q⟩ := h
  obtain ⟨u, rfl, ru⟩ := vals1 r
  have fits := g.fits hn
  have tail : ∀ (A : Addr), u = .ref A → wpAny (model X.prog X.w) X.A (call (.builtin "repr") [u]) (EP X pins σ Q) X.xe s := by
    rintro a rfl
    obtain ⟨as, hr, hns⟩ := Da.reads I hd ru
    refine repr_of_reads' (h₀ := s.heap) hr g.show_ (fun _ => hns) hq (by have := g.depth; omega) (fun _ _ z => z) (fun h' t tk hk => ?_) fits
    exact ⟨.str d.shown, H, I.kept hk, ⟨_, rfl⟩, q⟩
  cases hd with
  | non => cases ru; exact P.repr_of_none ⟨.str _, H, I.tok _, ⟨_, rfl⟩, q⟩
  | bl b =>
    cases ru
    refine P.repr_of_bool ?_
    exact ⟨.str _, H, I.tok _, ⟨_, rfl⟩, q⟩
  | int i =>
    obtain ⟨t, rfl⟩ := ru
    have hz : i.natAbs.log2 < 1920 := by have := g.show_; simpa [PyData.showable] using this
    exact P.repr_of_int hz ⟨.str _, H, I.tok _, ⟨_, rfl⟩, q⟩
  | str x =>
    obtain ⟨t, rfl⟩ := ru
    exact P.repr_of_str ⟨.str _, H, I.tok _, ⟨_, rfl⟩, q⟩ fits
  | lst e n t => cases ru; exact tail _ rfl
  | tup e t => cases ru; exact tail _ rfl
  | dct e t => cases ru; exact tail _ rfl
end
end G

namespace G
open PySem PySem.Spec PyProof.Rows L2

/-! ### errors of own classes as values: made, read, asked for their class -/
/-- what the written part says of an error's class -/
structure EC (K : PySem.W.Frag) (C : Addr) : Prop where
  ox : OexC K C
  hd : PySem.W.hasDictIn K C = true
  ga : PySem.W.findIn K (.ref C) "__getattribute__" = some (some (.builtin "BaseException.__getattribute__"))
  gg : PySem.W.findIn K (.ref C) "__getattr__" = some none
  nv : PySem.W.findIn K (.ref C) "value" = some none
  kl : PySem.W.findIn K (.ref C) "__class__" = some (some (.builtin "object.__class__"))
  ob : PySem.W.mroIn K C (.type "object") = some true
structure EK (K : PySem.W.Frag) : Prop where
  sp : PySem.W.specialIn K (.builtin "object.__class__") "__get__" = some (some (.builtin "getset_descriptor.__get__"))
  tk : PySem.W.takesIn K (.builtin "object.__class__") = some true
/-- an error of the class at C that keeps v -/
def ErrAt (H : Hp) (a C : Addr) (v : V) : Prop := ∃ d, H a = some (exo a C (some d)) ∧ H d = some (exd d [("value", v)])
theorem ErrAt.same {H H' : Hp} (S : Same H H') {a C : Addr} {v : V} (e : ErrAt H a C v) : ErrAt H' a C v := let ⟨d, h1, h2⟩ := e; ⟨d, S _ _ h1, S _ _ h2⟩
theorem EC.cls {K : PySem.W.Frag} {C : Addr} (T : EC K C) : (PySem.W.clsIn K C).isSome = true := by
  have h := T.hd
  unfold PySem.W.hasDictIn at h
  cases e : PySem.W.clsIn K C with
  | none => rw [e] at h; exact absurd h (by decide)
  | some c => rfl
section
variable {X : Cx}
theorem err_inst {pins : List (Addr × Obj)} {σ : L2.St} {H : Hp} {s : Shared} (I : Inv X pins σ H s) {a C : Addr} {v : V} (e : ErrAt H a C v) :
    ∃ (ox : Obj) (od : Obj) (mA : Str → Option Value) (dx : Addr), PySem.W.InstAt s.heap a ox C (some od) ∧ s.heap.Ns1 dx mA ∧ s.heap.get? dx = some od ∧ (∀ f, RelO (([("value", v)] : List (Str × V)).lookup f) (mA f)) := by
  obtain ⟨d, h1, h2⟩ := e
  obtain ⟨t1, ho⟩ := exo_at I.hok h1
  obtain ⟨mA, hn, hr⟩ := exd_at I.hok h2
  obtain ⟨o, es, ep, hd, hz⟩ := id hn
  exact ⟨_, o, mA, d, ⟨ho, rfl, rfl, hd⟩, hn, hd, hr⟩
/-- e.value -/
theorem pe_value {e : Expr} {te : TE} {pos : Pos} (he : PE X e te) (hb : attributeBase e "value" X.env (eval e X.env) = eval e X.env := by rfl) :
    PE X (.Attribute e "value" pos) (fun σ H Q => te σ H fun x H1 => ∃ a C v, x = .ref a ∧ EC X.K C ∧ ErrAt H1 a C v ∧ Q v H1) := by
  constructor
  intro pins s σ H Q I h
  refine attr_of hb (thn (he.run pins s σ H _ I h) ?_)
  rintro u s1 ⟨x, H1, I1, rx, a, C, v, rfl, T, ea, q⟩
  cases rx
  obtain ⟨ox, od, mA, dx, J, hn, hd, hr⟩ := err_inst I1 ea
  obtain ⟨od', hod, hl⟩ := lookIn_ns hn
  have eo : od' = od := Option.some.inj (hod.symm.trans hd)
  subst eo
  obtain ⟨u, hu, ru⟩ := RelO.some_of (v := v) (o := mA "value") (by have := hr "value"; simpa [List.lookup] using this)
  exact HandSPX.exc_get I1.kIn J T.ga T.gg T.ox.exC (PySem.W.findObj_own T.hd T.nv rfl (by rw [hl, hu])) (handed_of ru) ⟨v, H1, I1.tok _, ru, q⟩
/-- isinstance(e, C) of such an error -/
theorem call_isErr (S : EK X.K) : CallR X (.builtin "isinstance") (fun xs H Q => ∃ (a C : Addr) (v c : V) (u : Value) (b : Bool), xs = [.ref a, c] ∧ ClsV c u ∧ EC X.K C ∧ ErrAt H a C v ∧ PySem.W.kitOne X.K (.ref C) u = some b ∧ Q (.bl b) H) := by
  intro pins s σ H xs us Q I r h
  obtain ⟨a, C, v, c, u, b, rfl, k, T, ea, e, q⟩ := h
  obtain ⟨u1, u2, rfl, r1, r2⟩ := vals2 r
  have e2 := k.eq r2
  subst e2
  cases r1
  obtain ⟨ox, od, mA, dx, J, hn, hd, hr⟩ := err_inst I ea
  exact PySem.W.kia_one (PySem.W.kitx_exc (gt := none) T.cls T.ga T.gg T.ox.exC T.kl S.sp S.tk T.ob) I.kIn J e (fun z => nomatch z) fun tk => ⟨.bl b, H, I.tok tk, rfl, q⟩

/-- what __init__ of the errors promises: the first attribute, value -/
def spErrInit (K : PySem.W.Frag) : Sp := fun vs H Q _ => ∃ (a C : Addr) (v : V), vs = [.ref a, v] ∧ OexC K C ∧ PySem.W.findIn K (.ref C) "value" = some none ∧ H a = some (exo a C none) ∧
  ∀ dx, H dx = none → dx ≠ a → Q .non (upd (upd H dx (exd dx [("value", v)])) a (exo a C (some dx)))
/-- C(e): a new error of the class at C, with its dict -/
def tErr (C : Addr) (ta : TA) : TE := fun σ H Q => ta σ H fun vs H1 => ∃ v, vs = [v] ∧ ∀ a H2, H1 a = none → Same H1 H2 → ErrAt H2 a C v → Q (.ref a) H2
theorem pe_err {CX : CXT} {k : Nat} {fI C : Addr} {fd : FuncData} {x : Str} {e : Expr} {ta : TA} {p pos : Pos} (T : EC X.K C) (iC : PySem.W.findIn X.K (.ref C) "__init__" = some (some (.ref fI))) (tI : PySem.W.typeIn X.K (.ref fI) = some (.type "function"))
    (F : FnOk X.prog X.w X.K X.mg X.base CX k fI fd ["self", "value"] (spErrInit X.K)) (hr : Room (k + 1) X.A) (hb : Binds X.K fd ["self", "value"] []) (hx : Passes CX X (fun _ _ _ => False)) (hg : Gl X x) (hm : X.mg x = some (.ref C)) (ha : PA X [e] ta)
    (hdb : (x == ("__debug__" : Str)) = false := by decide) (he : starEach (e :: []) X.env = (false, eval e X.env) :: starEach [] X.env := by rfl) (hpl : (backTo pos (starEach [] X.env)).any (·.1) = false := by rfl) :
    PE X (.Call (.Name x p) [e] [] pos) (tErr C ta) := by
  constructor
  intro pins s σ H Q I h
  obtain ⟨nm, q, N, bs, bm, sn, sub, ab, col, dd, k0, k1, k2, k3, k5, hC, hbm⟩ := T.ox.cls
  apply wpAny_Call_Name_kw
  apply ld_glob I hg hm _ hdb
  apply PySem.W.callWith_K (h₀ := X.base) I.ok.mod.kin T.ox.kC _ he hpl
  apply thn (ha.run pos pins s σ H _ I h)
  rintro us s1 ⟨vs, H1, I1, r1, v, rfl, q1⟩
  refine ⟨I1.kIn, ?_⟩
  obtain ⟨u, rfl, ru⟩ := vals1 r1
  show wpAny _ _ (call (.ref C) [u]) _ _ _
  obtain ⟨hp, g, dr, tk, os⟩ := s1
  have up : hp.objs.size ≤ hp.objs.size + 1 := Nat.le_succ _
  have fresh : H1 (hp.objs.size + 1) = none := I1.hok.fresh up
  have keep : ∀ b o, hp.get? b = some o → ((hp.push (PySem.W.kdv_tup [u])).push (PySem.HandSPX.excO C hp.objs.size)).get? b = some o := fun b o z => Heap.get?_push_of_some _ (Heap.get?_push_of_some _ z)
  have here : ((hp.push (PySem.W.kdv_tup [u])).push (PySem.HandSPX.excO C hp.objs.size)).get? (hp.objs.size + 1) = some (PySem.HandSPX.excO C hp.objs.size) := by heap_get
  have J := I1.laid (t' := tk) (a := hp.objs.size + 1) (o := exo (hp.objs.size + 1) C none) keep up (exo_ok here)
  have sp : spErrInit X.K [.ref (hp.objs.size + 1), v] (upd H1 (hp.objs.size + 1) (exo (hp.objs.size + 1) C none)) (fun w H2 => w = .non ∧ Q (.ref (hp.objs.size + 1)) H2) (fun _ _ _ => False) := by
    refine ⟨hp.objs.size + 1, C, v, rfl, T.ox, T.nv, upd_same, fun dx hdx hne => ⟨rfl, q1 _ _ fresh ?_ ⟨dx, upd_same, ?_⟩⟩⟩
    · intro b o z
      rw [upd_ne hne] at hdx
      rw [upd_ne (ne_of_none z fresh), upd_ne (ne_of_none z hdx), upd_ne (ne_of_none z fresh)]
      exact z
    · rw [upd_ne hne]; exact upd_same
  apply wpAny_call
  apply PySem.HandSPX.call_own F_ve (fun Y => PySem.HandSPX.refsVE_contains Y bm hbm) (I1.kIn _ _ hC) (PySem.W.looks_findIn I1.kIn iC) (fun self => PySem.W.bind_fn I1.kIn self tI) (by rw [List.length_singleton, sizeLine_eq]; omega)
  have B := hb ⟨(hp.push (PySem.W.kdv_tup [u])).push (PySem.HandSPX.excO C hp.objs.size), g, dr, tk, os⟩ [.ref (hp.objs.size + 1), u] J.kIn rfl
  apply codeAny_mono (F.run _ X.stack _ _ ⟨[.ref (hp.objs.size + 1), u], []⟩ [.ref (hp.objs.size + 1), u] [.ref (hp.objs.size + 1), v] _ (fun _ _ _ => False) (hr.make C [u] []) (J.env0.make C [u] []) B (.cons rfl (.cons ru .nil)) sp)
  intro res s' done
  match res, done with
  | .error er, z => exact hx pins σ _ _ er s' J z
  | .ok .next, z => exact z.elim
  | .ok .brk, z => exact z.elim
  | .ok .cont, z => exact z.elim
  | .ok (.ret w), z =>
    obtain ⟨y, H2, J2, ry, ey, q2⟩ := J.after z
    subst ey
    exact ⟨ry, .ref (hp.objs.size + 1), H2, J2, rfl, q2⟩
where F_ve := PySem.F.excBase_ValueError
end
end G

namespace G
open PySem PySem.Spec PyProof.Rows L2

/-! ### the law's own call, entered while nothing shows itself -/
theorem lawCall {P : Program} {w : World} {K : PySem.W.Frag} {mg mb : Str → Option Value} {k : Nat} {fa a : Addr} {fd : FuncData} {x : Str} {sp : Sp} {s₁ : Shared} {vs : List Value} {ns : List Int}
    (KX : K.In s₁.heap) (glob : s₁.heap.Ns mainGlobals mg) (bltn : s₁.heap.Ns builtinsNs mb) (boot : ∀ x : Str, x ≠ "__name__" → mb x = bootBuiltins x) (lim : s₁.heap.NoLimit) (gens : s₁.gens = #[])
    (obj : s₁.heap.get? a = some { cls := .type "list", data := .seq vs.toArray }) (nums : IntsAre vs ns) (short : ns.length ≤ sizeLine) (room : Room k callerA)
    (F : ∀ base : Heap, K.In base → base.Ns mainGlobals mg → Fn P w K mg base CX0 k fa fd [x] sp) (bind : ∀ (s : Shared) (u : Value), BindsTo s fd ⟨[u], []⟩ [(x, u)])
    (told : ∀ H : Hp, Only H → SqL K H a (ns.map V.int) → sp [.ref a] H (fun v _ => v = .bl true) fun _ _ _ => False) :
    codeAny (model P w) callerA (.call (.ref fa) ⟨[.ref a], []⟩) (fun r s' => r = .ok (.ret (.bool true)) ∧ OldK s₁.heap s'.heap ∧ s'.os = s₁.os ∧ AllBare s'.gens) s₁ := by
  have rv := vals_ints nums
  have lenV := nums.length
  -- over an abstract heap that knows of the script at most
  suffices core : ∀ H : Hp, Only H → SqL K H a (ns.map V.int) → HOk P w H s₁.heap → (∀ b, H b ≠ none → b = a) → (H a ≠ none → K.lookup a = none) →
      codeAny (model P w) callerA (.call (.ref fa) ⟨[.ref a], []⟩) (fun r s' => r = .ok (.ret (.bool true)) ∧ OldK s₁.heap s'.heap ∧ s'.os = s₁.os ∧ AllBare s'.gens) s₁ by
    cases hk : K.lookup a with
    | some o =>
      have z := KX a o hk
      rw [obj] at z
      obtain rfl := Option.some.inj z
      apply core (fun _ => none) (fun _ => Or.inl rfl)
      · exact Or.inr ⟨_, vs.toArray, _, hk, rfl, rfl, rfl, by rw [List.size_toArray, lenV]; exact short, by simpa using rv⟩
      · intro b u z
        exact absurd (show (none : Option HO) = some u from z) (by simp)
      · exact fun b z => absurd rfl z
      · exact fun z => absurd rfl z
    | none =>
      apply core (fun b => if b = a then some (.frz { cls := .type "list", data := .seq vs.toArray } (.lst (ns.map V.int))) else none)
      · intro b
        by_cases hb : b = a
        · exact Or.inr ⟨_, _, if_pos hb⟩
        · exact Or.inl (if_neg hb)
      · exact Or.inl (Or.inr ⟨{ cls := .type "list", data := .seq vs.toArray }, if_pos rfl⟩)
      · intro b u z
        by_cases hb : b = a
        · obtain rfl := Option.some.inj ((if_pos hb).symm.trans z)
          rw [hb]
          exact ⟨obj, by rw [List.length_map]; exact short, vs, _, rv, obj⟩
        · exact absurd ((if_neg hb).symm.trans z) (by simp)
      · intro b z
        by_cases hb : b = a
        · exact hb
        · exact absurd (if_neg hb) z
      · exact fun _ => hk
  intro H hO hS hok hA hK
  have dictFree : ∀ {b : Addr} {o : Obj} {es : Array DictEntry} {ep : Nat}, s₁.heap.get? b = some o → o.data = .dict es ep → H b = none := by
    intro b o es ep e d
    cases q : H b with
    | none => rfl
    | some u =>
      obtain rfl := hA b (by rw [q]; simp)
      rw [obj] at e
      obtain rfl := Option.some.inj e
      exact absurd (show Data.seq vs.toArray _ = Data.dict es ep from d) (by simp)
  have nsB : ∀ {b : Addr} {m : Str → Option Value}, s₁.heap.Ns b m → (hidT s₁.heap H).Ns b m := by
    rintro b m ⟨o, es, ep, e, d, r⟩
    exact ⟨o, es, ep, hidT_get e (dictFree e d), d, r⟩
  have inB : K.In (hidT s₁.heap H) := by
    intro b o e
    apply hidT_get (KX b o e)
    cases q : H b with
    | none => rfl
    | some u =>
      obtain rfl := hA b (by rw [q]; simp)
      rw [hK (by rw [q]; simp)] at e
      exact absurd e (by simp)
  have M : Mod K mg (hidT s₁.heap H) := by
    obtain ⟨mc, l1, l2⟩ := lim
    exact ⟨inB, nsB glob, ⟨mb, nsB bltn, boot⟩, ⟨mc, nsB l1, l2⟩⟩
  have none_in : ∀ b : Addr, ¬ b ∈ frs ([] : List Env) := fun b z => absurd (show b ∈ ([] : List Addr) from z) (by simp)
  have e0 : Env0 P w K mg (hidT s₁.heap H) callerA [] s₁ H := ⟨rfl, M, fun b o e => of_hidT e, Nat.le_of_eq (hidT_size _ _), trivial, fun b hb => absurd hb (none_in b), hok, .of_eq gens⟩
  apply codeAny_mono ((F _ inB (nsB glob)).run callerA [] s₁ H ⟨[.ref a], []⟩ [.ref a] [.ref a] _ _ rfl room e0 (bind s₁ (.ref a)) (.cons rfl .nil) (told H hO hS))
  intro r s' h
  match r, h with
  | .error e, h => exact h.elim
  | .ok .next, h => exact h.elim
  | .ok .brk, h => exact h.elim
  | .ok .cont, h => exact h.elim
  | .ok (.ret u), h =>
    obtain ⟨v, H', os, bare, un, hok', r', q⟩ := h
    obtain rfl : v = .bl true := q
    obtain rfl : u = Value.bool true := r'
    refine ⟨rfl, OldK.of_keep fun b o e => ?_, os, bare⟩
    cases q : H b with
    | none => exact un.keep b o e q (none_in b) (by simp)
    | some u =>
      rcases hO b with z | ⟨ob, xs, z⟩
      · rw [q] at z; cases z
      · obtain ⟨e1, _⟩ := hok b _ z
        obtain ⟨e2, _⟩ := hok' b _ (un.frzs b ob _ z)
        rw [e] at e1
        obtain rfl := Option.some.inj e1
        exact e2
theorem walkOf {l : PySem.W.OpenLaw} {n k : Nat} {q : Program} {loose : List Str} {XP : (Str → Option Value) → Heap → Prop} {YP : World → Heap → Prop} {d : DefRec} {K : Params → PySem.W.Frag} {sp : PySem.W.Frag → Sp} {x : Str}
    (hn : l.most = some n) (hn2 : n ≤ sizeLine) (hdf : d.params.defaults = []) (hr : Room k callerA) (hY : ∀ (w : World) (h : Heap), YP w h → (K w.params).In h)
    (F : ∀ (w : World) (mg : Str → Option Value) (fa : Addr) (h : Heap), (K w.params).In h → h.Ns mainGlobals mg → mg d.name = some (.ref fa) →
      ∃ fd : FuncData, (∀ (s : Shared) (u : Value), BindsTo s fd ⟨[u], []⟩ [(x, u)]) ∧ ∀ base : Heap, (K w.params).In base → base.Ns mainGlobals mg → Fn l.prog w (K w.params) mg base CX0 k fa fd [x] (sp (K w.params)))
    (told : ∀ (K : PySem.W.Frag) (H : Hp) (a : Addr) (ns : List Int), ns.length ≤ n → Only H → SqL K H a (ns.map V.int) → sp K [.ref a] H (fun v _ => v = .bl true) fun _ _ _ => False) :
    PySem.W.WalkO q loose XP YP l.row.toRowW d [] (fun f vs => PySem.call f vs) := by
  apply Att.attach_call hn hdf
  intro w s₀ s₁ mg mb fa o pm cd doc a vs ns G Y ho hd hcd hmg hobj hints hlen hg
  have KX := hY w _ Y
  obtain ⟨fd, hb, hF⟩ := F w mg fa _ KX G.T.g hmg
  exact lawCall KX G.T.g G.T.b G.T.builtins G.T.nolimit hg hobj hints (Nat.le_trans hlen hn2) hr hF hb fun H hO hS => told (K w.params) H a ns hlen hO hS
end G

namespace G
open PySem PySem.Spec PyProof.Rows L2 HT

/-! ### further operators -/
/-- a ** b of greater ints -/
def CPowW (i j : Int) : Prop := 2 ≤ i ∧ 1 ≤ j ∧ ((Builtin.Int.intBits i : Nat) : Int) * j ≤ 100000
section
variable {X : Cx}
theorem op_powW : OpR X (binaryOp .Pow) (rI CPowW fun i j => .int (i ^ j.toNat)) := opI fun i j t u s Q E hc q => by
  obtain ⟨h1, h2, h3⟩ := hc
  have n0 : ¬ (j == 0) = true := by simp; omega
  have n1 : ¬ (i == 0 || i == 1) = true := by simp; omega
  have n2 : ¬ (i == -1) = true := by simp; omega
  have n3 : ¬ Builtin.Int.intTooBig (((Builtin.Int.intBits i : Nat) : Int) * j) = true := by
    have e : bitsLine = 134217728 := by decide
    unfold Builtin.Int.intTooBig
    rw [e]
    intro z
    have := of_decide_eq_true z
    omega
  exact PySem.AutoIntOps.pow_4 (by omega) n0 n1 n2 n3 q
end

section
variable {prog : Program} {w : World} {A : Around} {E : Value → Shared → Prop} {s : Shared}
theorem fm_map {α β : Type} {f : α → Option β} {g : α → β} : ∀ (l : List α), (∀ m ∈ l, f m = some (g m)) → l.filterMap f = l.map g
  | [], _ => rfl
  | a :: r, h => by rw [List.filterMap_cons, h a (List.mem_cons_self ..), List.map_cons, fm_map r fun m hm => h m (List.mem_cons_of_mem _ hm)]
theorem back_run (xs : List Value) : ((List.range xs.length).filterMap fun (m : Nat) => xs.toArray[((xs.length : Int) - 1 + (m : Int) * (-1)).toNat]?) = xs.reverse := by
  apply List.ext_getElem?
  intro i
  have e : ((List.range xs.length).filterMap fun (m : Nat) => xs.toArray[((xs.length : Int) - 1 + (m : Int) * (-1)).toNat]?) = (List.range xs.length).map fun (m : Nat) => (xs[xs.length - 1 - m]?).getD .none := by
    apply fm_map
    intro m hm
    have hm' : m < xs.length := List.mem_range.mp hm
    have e1 : ((xs.length : Int) - 1 + (m : Int) * (-1)).toNat = xs.length - 1 - m := by omega
    rw [e1, List.getElem?_toArray, List.getElem?_eq_getElem (by omega)]
    rfl
  rw [e, List.getElem?_map]
  by_cases hi : i < xs.length
  · rw [List.getElem?_range hi, Option.map_some, List.getElem?_eq_getElem (by omega), List.getElem?_reverse hi, List.getElem?_eq_getElem (by omega)]
    rfl
  · rw [List.getElem?_eq_none (by simpa using hi), List.getElem?_eq_none (by rw [List.length_reverse]; omega)]
    rfl
theorem getItem_tuple_back {t sl : Addr} {its : List Value} {u : Tok} {Q : Value → Shared → Prop} (ht : IsTup s.heap t its.toArray) (hs : s.heap.IsSliceOf sl .none .none (.int (-1) u)) (hsz : its.length ≤ sizeLine)
    (h : Q (.ref s.heap.objs.size) { s with heap := s.heap.push { cls := .type "tuple", data := .seq its.reverse.toArray } }) : wpAny (model prog w) A (getItem (.ref t) (.ref sl)) Q E s := by
  have big : sizeOk (.seq its.reverse.toArray) := by
    show its.reverse.toArray.size ≤ sizeLine
    rw [List.size_toArray, List.length_reverse]; exact hsz
  obtain ⟨os, hos, hcs, hds⟩ := id hs
  have hTs : s.TypeIs (.ref sl) "slice" := ⟨os, hos, hcs⟩
  unfold getItem
  try with_reducible refine wpAny_holding ?_
  first | refine wpAny_bind (wpAny_pure ?_) | skip
  apply wpAny_bind
  apply wpAny_sequenceKey ht.typeIs (by decide)
  apply wpAny_bind
  apply wpAny_callSpecial?_slot (name := Str.ofString "__getitem__") ht.typeIs PyProof.Rows.slot_tuple_getitem
  refine wpAny_call_entry PyProof.Rows.slot_tuple_getitem ht.typeIs entry_tuple_getitem ?_ (args_tuple_getitem _ _)
  show wpAny _ _ (Builtin.Tuple.tupleItemsOf (.ref t) >>= _) _ _ s
  apply wpAny_bind
  apply tupleItemsOf_ ht
  apply wpAny_bind
  apply wpAny_typeOf hTs
  rw [if_pos (by decide)]
  apply wpAny_bind
  unfold Builtin.Slice.sliceApplied Builtin.Slice.sliceFields
  apply wpAny_bind
  refine wpAny_bind (wpAny_field hos hds (x := .none) rfl (wpAny_bind (wpAny_field hos hds (x := .none) rfl (wpAny_bind (wpAny_field hos hds (x := .int (-1) u) rfl (wpAny_pure ?_))))))
  apply wpAny_bind
  apply slicePart_int
  show wpAny _ _ (if ((-1 : Int) == 0) = true then _ else _) _ _ s
  rw [if_neg (by decide)]
  refine wpAny_bind (slicePart_none (wpAny_bind (slicePart_none (wpAny_bind (wpAny_pure ?_)))))
  show wpAny _ _ (match Builtin.Slice.sliceAdjust none none (-1) (its.toArray.size : Int) with | (lo, hi) => pure (lo, (-1 : Int), Builtin.Slice.slicePlaces lo hi (-1))) _ _ s
  have e1 : Builtin.Slice.sliceAdjust none none (-1) (its.toArray.size : Int) = ((its.length : Int) - 1, -1) := by
    unfold Builtin.Slice.sliceAdjust
    have h1 : ((-1 : Int) < 0) := by omega
    simp [h1]
  have e2 : Builtin.Slice.slicePlaces ((its.length : Int) - 1) (-1) (-1) = its.length := by
    unfold Builtin.Slice.slicePlaces
    simp
    split <;> omega
  rw [e1]
  show wpAny _ _ (pure ((its.length : Int) - 1, (-1 : Int), Builtin.Slice.slicePlaces ((its.length : Int) - 1) (-1) (-1))) _ _ s
  rw [e2]
  refine wpAny_pure ?_
  have no : ¬ ((((its.length : Int) - 1 == 0) && ((-1 : Int) == 1) && (its.length == its.toArray.size)) = true) := by
    have : ((-1 : Int) == 1) = false := by decide
    rw [this, Bool.and_false, Bool.false_and]
    exact Bool.false_ne_true
  show wpAny _ _ (if ((((its.length : Int) - 1 == 0) && ((-1 : Int) == 1) && (its.length == its.toArray.size)) = true) then _ else _) _ _ s
  rw [if_neg no, back_run]
  first
    | exact wpAny_bind (m := Builtin.Tuple.tupleExact _) (wpAny_newObj_type (wpAny_pure ⟨_, rfl, wpAny_pure h⟩) big)
    | exact wpAny_bind (m := Builtin.Tuple.tupleExact _) (wpAny_newObj_type (wpAny_bind (wpAny_pure (wpAny_pure ⟨_, rfl, wpAny_pure h⟩))) big)
    | exact wpAny_bind (wpAny_bind (m := Builtin.Tuple.tupleExact _) (wpAny_newObj_type (wpAny_pure (wpAny_pure ⟨_, rfl, wpAny_pure h⟩)) big))
    | exact wpAny_bind (wpAny_bind (m := Builtin.Tuple.tupleExact _) (wpAny_newObj_type (wpAny_pure ⟨_, rfl, wpAny_pure h⟩) big))
end
section
variable {X : Cx}
/-- t[::-1], t a tuple -/
def tRevT (te : TE) : TE := fun σ H Q => te σ H fun x H1 => ∃ a xs, x = .ref a ∧ H1 a = some (.tup xs) ∧ ∀ p, H1 p = none → Q (.ref p) (upd H1 p (.tup xs.reverse))
theorem pe_revT {e : Expr} {te : TE} {k : Nat} {p1 p2 p3 pos : Pos} (he : PE X e te) : PE X (.Subscript e (.Slice none none (some (.UnaryOp .USub (.Constant (.int 1) k p1) p2)) p3) pos) (tRevT te) := by
  constructor
  intro pins s σ H Q I h
  apply Subscript_
  apply thn (he.run pins s σ H _ I h)
  rintro v s1 ⟨x, H1, I1, r1, a, xs, rfl, hx, q⟩
  cases r1
  have part : PO X (some (.UnaryOp .USub (.Constant (.int 1) k p1) p2)) (tPart (tUn (rU fun i => .int (-i)) (tC (.int 1)))) := po_some (pe_un un_neg pe_int)
  apply wpAny_Slice
  apply thn (po_none.run pins s1 σ H1 (fun o H2 => o = none ∧ H2 = H1) I1 ⟨rfl, rfl⟩)
  rintro vl s2 ⟨l, H2, I2, pl, rfl, rfl⟩
  apply thn (po_none.run pins s2 σ H2 (fun o H3 => o = none ∧ H3 = H2) I2 ⟨rfl, rfl⟩)
  rintro vu s3 ⟨u, H3, I3, pu, rfl, rfl⟩
  apply thn (part.run pins s3 σ H3 (fun o H4 => o = some (-1) ∧ H4 = H3) I3 ⟨1, rfl, -1, rfl, rfl, rfl⟩)
  rintro vs s4 ⟨o, H4, I4, ps, rfl, rfl⟩
  cases pl
  cases pu
  cases ps with
  | int _ tk =>
  have I5 : Inv X pins σ H4 { s4 with heap := s4.heap.push { cls := .type "slice", data := .fields #[.none, .none, .int (-1) tk] } } := I4.kept (t' := s4.toks) fun b ob z => Heap.get?_push_of_some _ z
  obtain ⟨hz, its, r, ht⟩ := I5.hok a _ hx
  have hl := r.length
  show wpAny (model X.prog X.w) X.A (subscriptTail e (.Slice none none (some (.UnaryOp .USub (.Constant (.int 1) k p1) p2)) p3) (.ref a) (.ref s4.heap.objs.size)) (EP X pins σ Q) X.xe { s4 with heap := s4.heap.push { cls := .type "slice", data := .fields #[.none, .none, .int (-1) tk] } }
  apply tail_any (ops := [.ref a, .ref s4.heap.objs.size]) (IsTup.typeIs ht) PyProof.Rows.slot_tuple_getitem.lookup _ (by with_unfolding_all rfl)
  apply getItem_tuple_back ht (Heap.IsSliceOf.new _ .none .none (.int (-1) tk)) (by omega)
  refine ⟨.ref _, _, I5.laid (t' := s4.toks) (o := .tup xs.reverse) (fun b ob z => Heap.get?_push_of_some _ z) (Nat.le_refl _) ?_, rfl, q _ (I5.hok.fresh (Nat.le_refl _))⟩
  exact ⟨by rw [List.length_reverse]; exact hz, _, r.reverse, ⟨_, Heap.get?_push_size _ rfl, rfl, _, rfl⟩⟩
/-- a list display, whose place is not the table of modules -/
def tLstS (t : TA) : TE := fun σ H Q => t σ H fun xs H1 => xs.length ≤ sizeLine ∧ ∀ p, H1 p = none → p ≠ sysModules → Q (.ref p) (upd H1 p (.lst xs))
theorem pe_lstS {es : List Expr} {t : TA} {pos : Pos} (h : PA X es t) : PE X (.List es pos) (tLstS t) := by
  constructor
  intro pins s σ H Q I hq
  apply wpAny_List_spliced
  apply thn (h.run pos pins s σ H _ I hq)
  rintro us s1 ⟨xs, H1, I1, r, z, q⟩
  refine ⟨by rw [← r.length]; exact z, ?_⟩
  refine ⟨.ref s1.heap.objs.size, upd H1 s1.heap.objs.size (.lst xs), I1.laid (t' := s1.toks) (fun b u e => Heap.get?_push_of_some _ e) (Nat.le_refl _) ?_, rfl, q _ (I1.hok.fresh (Nat.le_refl _)) (Nat.ne_of_gt I1.big)⟩
  exact ⟨z, us, 0, r, Heap.get?_push_size _ rfl⟩
end
end G

namespace G
open PySem PySem.Spec PyProof.Rows L2

/-! ### data apart from some addresses -/
open Classical in
noncomputable def mask (N : Addr → Prop) (H : Hp) : Hp := fun b => if N b then none else H b
theorem mask_out {N : Addr → Prop} {H : Hp} {b : Addr} (h : ¬ N b) : mask N H b = H b := by unfold mask; rw [if_neg h]
theorem mask_in {N : Addr → Prop} {H : Hp} {b : Addr} (h : N b) : mask N H b = none := by unfold mask; rw [if_pos h]
theorem mask_some {N : Addr → Prop} {H : Hp} {b : Addr} {o : HO} (h : mask N H b = some o) : ¬ N b ∧ H b = some o := by
  by_cases e : N b
  · rw [mask_in e] at h; cases h
  · rw [mask_out e] at h; exact ⟨e, h⟩
theorem mask_le (N : Addr → Prop) (H : Hp) : Same (mask N H) H := fun b o h => (mask_some h).2
theorem mask_mono {N : Addr → Prop} {H H' : Hp} (S : Same H H') : Same (mask N H) (mask N H') := fun b o h => by
  rw [mask_out (mask_some h).1]; exact S b o (mask_some h).2
theorem mask_less {N M : Addr → Prop} {H : Hp} (h : ∀ b, M b → N b) : Same (mask N H) (mask M H) := fun b o e => by
  rw [mask_out fun z => (mask_some e).1 (h b z)]; exact (mask_some e).2
theorem same_new {H : Hp} {q : Addr} {o : HO} (h : H q = none) : Same H (upd H q o) := fun b u e => by rw [upd_ne (ne_of_none e h)]; exact e

def Is (N : Addr → Prop) (H : Hp) (G : PyData → Prop) (v : V) : Prop := ∃ d, Da (mask N H) v d ∧ G d
theorem Is.same {N : Addr → Prop} {H H' : Hp} {G : PyData → Prop} {v : V} (S : Same H H') (h : Is N H G v) : Is N H' G v := let ⟨d, a, g⟩ := h; ⟨d, a.same (mask_mono S), g⟩
theorem Is.less {N M : Addr → Prop} {H : Hp} {G : PyData → Prop} {v : V} (h : ∀ b, M b → N b) (x : Is N H G v) : Is M H G v := let ⟨d, a, g⟩ := x; ⟨d, a.same (mask_less h), g⟩
theorem Is.imp {N : Addr → Prop} {H : Hp} {G G' : PyData → Prop} {v : V} (h : ∀ d, G d → G' d) (x : Is N H G v) : Is N H G' v := let ⟨d, a, g⟩ := x; ⟨d, a, h d g⟩
theorem is_int {N : Addr → Prop} {H : Hp} {G : PyData → Prop} {i : Int} (g : G (.int i)) : Is N H G (.int i) := ⟨_, .int i, g⟩
theorem is_str {N : Addr → Prop} {H : Hp} {G : PyData → Prop} {x : Str} (g : G (.str x)) : Is N H G (.str x) := ⟨_, .str x, g⟩
theorem is_bl {N : Addr → Prop} {H : Hp} {G : PyData → Prop} {b : Bool} (g : G (.bool b)) : Is N H G (.bl b) := ⟨_, .bl b, g⟩
theorem is_non {N : Addr → Prop} {H : Hp} {G : PyData → Prop} (g : G .none) : Is N H G .non := ⟨_, .non, g⟩
theorem daAll_of {N : Addr → Prop} {H : Hp} {G : PyData → Prop} : ∀ {xs : List V}, (∀ x ∈ xs, Is N H G x) → ∃ ds, DaAll (mask N H) xs ds ∧ ds.length = xs.length ∧ ∀ d ∈ ds, G d
  | [], _ => ⟨[], .nil, rfl, fun _ h => nomatch h⟩
  | x :: xs, h => by
    obtain ⟨d, a, g⟩ := h x (List.mem_cons_self ..)
    obtain ⟨ds, b, l, gs⟩ := daAll_of (xs := xs) fun y hy => h y (List.mem_cons_of_mem _ hy)
    refine ⟨d :: ds, .cons a b, by rw [List.length_cons, List.length_cons, l], fun y hy => ?_⟩
    rcases List.mem_cons.mp hy with e | hy
    · rw [e]; exact g
    · exact gs y hy
theorem is_of_daAll {N : Addr → Prop} {H : Hp} {G : PyData → Prop} : ∀ {xs : List V} {ds : List PyData}, DaAll (mask N H) xs ds → (∀ d ∈ ds, G d) → ∀ x ∈ xs, Is N H G x
  | _, _, .nil, _, _, h => nomatch h
  | _, _, .cons (d := d) a b, g, x, h => by
    rcases List.mem_cons.mp h with e | h
    · rw [e]; exact ⟨d, a, g d (List.mem_cons_self ..)⟩
    · exact is_of_daAll b (fun y hy => g y (List.mem_cons_of_mem _ hy)) x h
theorem is_tup {N : Addr → Prop} {H : Hp} {G G' : PyData → Prop} {a : Addr} {xs : List V} (hN : ¬ N a) (ha : H a = some (.tup xs)) (hx : ∀ x ∈ xs, Is N H G' x) (g : ∀ ds : List PyData, ds.length = xs.length → (∀ d ∈ ds, G' d) → G (.tuple ds)) : Is N H G (.ref a) := by
  obtain ⟨ds, b, l, gs⟩ := daAll_of hx
  exact ⟨_, .tup (by rw [mask_out hN]; exact ha) b, g ds l gs⟩
theorem is_lst {N : Addr → Prop} {H : Hp} {G G' : PyData → Prop} {a : Addr} {xs : List V} (hN : ¬ N a) (ha : H a = some (.lst xs)) (hs : a ≠ sysModules) (hx : ∀ x ∈ xs, Is N H G' x) (g : ∀ ds : List PyData, ds.length = xs.length → (∀ d ∈ ds, G' d) → G (.list ds)) : Is N H G (.ref a) := by
  obtain ⟨ds, b, l, gs⟩ := daAll_of hx
  exact ⟨_, .lst (by rw [mask_out hN]; exact ha) hs b, g ds l gs⟩

/-! ### what evaluates to good data, leaving all that is tracked as it is -/
def EvG (N : Addr → Prop) (te : TE) (σ : L2.St) (H : Hp) (G : PyData → Prop) : Prop := ∀ H1, Same H H1 → ∀ Q : VK, (∀ v H2, Same H1 H2 → Is N H2 G v → Q v H2) → te σ H1 Q
def EvGA (N : Addr → Prop) (ta : TA) (σ : L2.St) (H : Hp) (G : PyData → Prop) (m : Nat) : Prop :=
  ∀ H1, Same H H1 → ∀ Q : List V → Hp → Prop, (∀ vs H2, Same H1 H2 → vs.length = m → (∀ x ∈ vs, Is N H2 G x) → Q vs H2) → ta σ H1 Q
section
variable {N : Addr → Prop} {σ : L2.St} {H : Hp} {G G' : PyData → Prop} {te : TE} {ta : TA} {m : Nat}
/-- only what is tracked is set apart -/
def Tr (N : Addr → Prop) (H : Hp) : Prop := ∀ b, N b → H b ≠ none
theorem Tr.same {H' : Hp} (t : Tr N H) (S : Same H H') : Tr N H' := fun b h => by
  cases e : H b with
  | none => exact absurd e (t b h)
  | some o => rw [S b o e]; simp
theorem Tr.new {q : Addr} (t : Tr N H) (h : H q = none) : ¬ N q := fun z => t q z h
theorem EvG.mono {H' : Hp} (S : Same H H') (h : EvG N te σ H G) : EvG N te σ H' G := fun H1 S1 Q q => h H1 (S.trans S1) Q q
theorem EvGA.mono {H' : Hp} (S : Same H H') (h : EvGA N ta σ H G m) : EvGA N ta σ H' G m := fun H1 S1 Q q => h H1 (S.trans S1) Q q
theorem evg_is {v : V} (h : ∀ H', Is N H' G v) : EvG N (tC v) σ H G := fun H1 _ Q q => q v H1 (Same.refl _) (h H1)
theorem evg_int {i : Int} (g : G (.int i)) : EvG N (tC (.int i)) σ H G := evg_is fun _ => is_int g
theorem evg_str {x : Str} (g : G (.str x)) : EvG N (tC (.str x)) σ H G := evg_is fun _ => is_str g
theorem evg_bl {b : Bool} (g : G (.bool b)) : EvG N (tC (.bl b)) σ H G := evg_is fun _ => is_bl g
theorem evg_non (g : G .none) : EvG N (tC .non) σ H G := evg_is fun _ => is_non g
theorem evg_neg {i : Int} (g : G (.int (-i))) : EvG N (tUn (rU fun i => .int (-i)) (tC (.int i))) σ H G := fun H1 _ Q q => ⟨i, rfl, q _ H1 (Same.refl _) (is_int g)⟩
theorem evg_pow {i j : Int} (c : CPowW i j) (g : G (.int (i ^ j.toNat))) : EvG N (tOp (rI CPowW fun i j => .int (i ^ j.toNat)) (tC (.int i)) (tC (.int j))) σ H G :=
  fun H1 _ Q q => ⟨i, j, rfl, rfl, c, q _ H1 (Same.refl _) (is_int g)⟩
theorem evg_var {i : Nat} {v : V} (h : σ[i]? = some (some v)) (x : Is N H G v) : EvG N (tVar i) σ H G := fun H1 S Q q => ⟨v, h, q v H1 (Same.refl _) (x.same S)⟩
theorem eva_nil : EvGA N tNil σ H G 0 := fun H1 _ Q q => q [] H1 (Same.refl _) rfl fun _ h => nomatch h
theorem eva_cons {tr : TA} (h : EvG N te σ H G) (hr : EvGA N tr σ H G m) : EvGA N (tCons te tr) σ H G (m + 1) := fun H1 S Q q =>
  h H1 S _ fun v H2 S2 x => hr H2 (S.trans S2) _ fun vs H3 S3 l xs => q (v :: vs) H3 (S2.trans S3) (by rw [List.length_cons, l]) fun y hy => by
    rcases List.mem_cons.mp hy with e | hy
    · rw [e]; exact x.same S3
    · exact xs y hy
theorem evg_tup (t : Tr N H) (h : EvGA N ta σ H G' m) (hm : m ≤ 1000) (g : ∀ ds : List PyData, ds.length = m → (∀ d ∈ ds, G' d) → G (.tuple ds)) : EvG N (tTup ta) σ H G := fun H1 S Q q =>
  h H1 S _ fun vs H2 S2 l xs => ⟨by rw [l, sizeLine_eq]; omega, fun p hp => q (.ref p) _ (S2.trans (same_new hp))
    (is_tup (((t.same S).same S2).new hp) upd_same (fun x hx => (xs x hx).same (same_new hp)) fun ds e => g ds (e.trans l))⟩
theorem evg_lst (t : Tr N H) (h : EvGA N ta σ H G' m) (hm : m ≤ 1000) (g : ∀ ds : List PyData, ds.length = m → (∀ d ∈ ds, G' d) → G (.list ds)) : EvG N (tLstS ta) σ H G := fun H1 S Q q =>
  h H1 S _ fun vs H2 S2 l xs => ⟨by rw [l, sizeLine_eq]; omega, fun p hp hs => q (.ref p) _ (S2.trans (same_new hp))
    (is_lst (((t.same S).same S2).new hp) upd_same hs (fun x hx => (xs x hx).same (same_new hp)) fun ds e => g ds (e.trans l))⟩
theorem evg_dnew (t : Tr N H) (g : G (.dict [])) : EvG N tDNewK σ H G := fun H1 S Q q p hp => q (.ref p) _ (same_new hp)
  ⟨_, .dct (kvs := []) (ds := []) (by rw [mask_out ((t.same S).new hp)]; exact upd_same) .nil, g⟩
/-- {'k': e} -/
theorem evg_dict1 {x : Str} (t : Tr N H) (h : ∀ q H1, Same H H1 → EvG (fun b => N b ∨ b = q) te σ H1 G') (g : ∀ d, G' d → G (.dict [(.str x, d)])) : EvG N (tDisp [(tC (.str x), te)]) σ H G := fun H1 S Q q p hp => by
  refine h p _ (S.trans (same_new hp)) _ (Same.refl _) _ fun v H2 S2 ⟨d, a, gd⟩ => ?_
  have e2 : H2 p = some (.dK []) := S2 _ _ upd_same
  refine ⟨e2, [(Sum.inr x, v)], rfl, by show 1 ≤ 15; decide, ?_⟩
  have keep : Same H1 (upd H2 p (.dK (mergeK [] [(Sum.inr x, v)]))) := fun b o e => by
    rw [upd_ne (ne_of_none e hp)]
    exact S2 b o (by rw [upd_ne (ne_of_none e hp)]; exact e)
  refine q (.ref p) _ keep ⟨_, .dct (kvs := [(Sum.inr x, v)]) (ds := [d]) (by rw [mask_out ((t.same S).new hp)]; exact upd_same) (.cons (a.same ?_) .nil), g d gd⟩
  intro b o e
  obtain ⟨nb, eb⟩ := mask_some e
  have n1 : ¬ N b := fun z => nb (Or.inl z)
  have n2 : b ≠ p := fun z => nb (Or.inr z)
  rw [mask_out n1, upd_ne n2]
  exact eb
/-- a new list of good data, where it is -/
theorem eva_list (t : Tr N H) (h : EvGA N ta σ H G m) (hm : m ≤ 1000) {Q : VK} (q : ∀ l xs H2, Same H H2 → H l = none → H2 l = some (.lst xs) → l ≠ sysModules → xs.length = m → (∀ x ∈ xs, Is N H2 G x) → Q (.ref l) H2) : tLstS ta σ H Q :=
  h H (Same.refl _) _ fun vs H2 S2 l xs => ⟨by rw [l, sizeLine_eq]; omega, fun p hp hs => q p vs _ (S2.trans (same_new hp)) (Same.free S2 hp) upd_same hs l fun x hx => (xs x hx).same (same_new hp)⟩
end
end G

namespace G
open PySem PySem.Spec PyProof.Rows L2
section
variable {X : Cx}
/-- list(t), t a tuple: the new list is not the table of modules -/
def rListT : List V → Hp → VK → Prop := fun xs H Q => ∃ p ys, xs = [.ref p] ∧ H p = some (.tup ys) ∧ ∀ l, H l = none → l ≠ sysModules → Q (.ref l) (upd H l (.lst ys))
theorem call_listT : CallR X (.type "list") rListT := by
  intro pins s σ H xs us Q I r h
  obtain ⟨p, ys, rfl, hp, q⟩ := h
  obtain ⟨u, rfl, rx⟩ := vals1 r
  cases rx
  obtain ⟨its, r', ⟨o, ho, hc, n, hd⟩, hz⟩ := I.tuple (SqT.of hp)
  have hlen := r'.length
  refine call_list_seq p (.inr rfl) ho hc hd (fun h' c' kp e => ?_) (by simp only [List.size_toArray] <;> omega)
  refine ⟨.ref s.heap.objs.size, _, I.laid (t' := s.toks) kp (Nat.le_refl _) (o := .lst ys) ⟨hz, its, c', r', e⟩, rfl, q _ (I.hok.fresh (Nat.le_refl _)) (Nat.ne_of_gt I.big)⟩
end

section
variable {K : PySem.W.Frag} {N : Addr → Prop} {σ : L2.St} {H : Hp} {G G' : PyData → Prop} {te tf : TE} {tl th : TO} {m : Nat}
/-! ### tuples: parts, sums, the other way about -/
theorem cutV_mem {xs : List V} {lo hi : Option Int} {x : V} (h : x ∈ cutV xs lo hi) : x ∈ xs := List.mem_of_mem_drop (List.mem_of_mem_take h)
theorem slA_any {a : Addr} {xs : List V} {lo hi : Option Int} {Q : VK} (ha : H a = some (.tup xs)) (q : ∀ b ys H1, Same H H1 → H1 b = some (.tup ys) → (b = a ∨ H b = none) → (∀ y ∈ ys, y ∈ xs) → ys.length ≤ xs.length → Q (.ref b) H1) : rSlA K (.ref a) lo hi H Q :=
  ⟨a, xs, rfl, SqT.of ha, fun _ => q a xs H (Same.refl _) ha (.inl rfl) (fun _ h => h) (Nat.le_refl _), fun _ p hp => q p _ _ (same_new hp) upd_same (.inr hp) (fun _ h => cutV_mem h) (cutV_length _ _ _)⟩
theorem catA_any {a b : Addr} {xs ys : List V} {Q : VK} (ha : H a = some (.tup xs)) (hb : H b = some (.tup ys)) (hz : xs.length + ys.length ≤ 100000)
    (q : ∀ c H1, Same H H1 → H1 c = some (.tup (xs ++ ys)) → (c = a ∨ c = b ∨ H c = none) → Q (.ref c) H1) : rCatA K (.ref a) (.ref b) H Q := by
  refine ⟨a, b, xs, ys, rfl, rfl, SqT.of ha, SqT.of hb, by rw [sizeLine_eq]; omega, fun e => ?_, fun e1 e2 => ?_, fun e1 e2 p hp => ?_⟩
  · exact q b H (Same.refl _) (by rw [e]; exact hb) (.inr (.inl rfl))
  · exact q a H (Same.refl _) (by rw [e2, List.append_nil]; exact ha) (.inl rfl)
  · exact q p _ (same_new hp) upd_same (.inr (.inr hp))
/-- a tuple of good data, outside of N -/
def IsT (N : Addr → Prop) (H : Hp) (G : PyData → Prop) (m : Nat) (v : V) : Prop := ∃ a xs, v = .ref a ∧ ¬ N a ∧ H a = some (.tup xs) ∧ xs.length ≤ m ∧ ∀ x ∈ xs, Is N H G x
theorem IsT.same {H' : Hp} {v : V} (S : Same H H') (h : IsT N H G m v) : IsT N H' G m v := by
  obtain ⟨a, xs, rfl, n, e, l, x⟩ := h
  exact ⟨a, xs, rfl, n, S _ _ e, l, fun y hy => (x y hy).same S⟩
theorem IsT.is {v : V} (h : IsT N H G' m v) (g : ∀ ds : List PyData, ds.length ≤ m → (∀ d ∈ ds, G' d) → G (.tuple ds)) : Is N H G v := by
  obtain ⟨a, xs, rfl, n, e, l, x⟩ := h
  exact is_tup n e x fun ds e2 => g ds (by omega)
def EvT (N : Addr → Prop) (te : TE) (σ : L2.St) (H : Hp) (G : PyData → Prop) (m : Nat) : Prop := ∀ H1, Same H H1 → ∀ Q : VK, (∀ v H2, Same H1 H2 → IsT N H2 G m v → Q v H2) → te σ H1 Q
/-- an optional part of a slice that is an int -/
def EvO (to : TO) (σ : L2.St) : Prop := ∀ (H1 : Hp) (Q : Option Int → Hp → Prop), (∀ o, Q o H1) → to σ H1 Q
theorem evo_none : EvO tNoPart σ := fun H1 Q q => q _
theorem evo_int {i : Int} : EvO (tPart (tC (.int i))) σ := fun H1 Q q => ⟨i, rfl, q _⟩
theorem evo_neg {i : Int} : EvO (tPart (tUn (rU fun i => .int (-i)) (tC (.int i)))) σ := fun H1 Q q => ⟨i, rfl, _, rfl, q _⟩
theorem evo_var {i : Nat} {j : Int} (h : σ[i]? = some (some (.int j))) : EvO (tPart (tVar i)) σ := fun H1 Q q => ⟨_, h, _, rfl, q _⟩
theorem evo_add {i : Nat} {j k : Int} (h : σ[i]? = some (some (.int j))) : EvO (tPart (tOp (rI0 fun i j => .int (i + j)) (tVar i) (tC (.int k)))) σ := fun H1 Q q => ⟨_, h, _, _, rfl, rfl, _, rfl, q _⟩
theorem EvT.g (h : EvT N te σ H G' m) (g : ∀ ds : List PyData, ds.length ≤ m → (∀ d ∈ ds, G' d) → G (.tuple ds)) : EvG N te σ H G := fun H1 S Q q => h H1 S Q fun v H2 S2 x => q v H2 S2 (x.is g)
theorem evt_var {i : Nat} {v : V} (h : σ[i]? = some (some v)) (x : IsT N H G m v) : EvT N (tVar i) σ H G m := fun H1 S Q q => ⟨v, h, q v H1 (Same.refl _) (x.same S)⟩
theorem evt_tup {ta : TA} (t : Tr N H) (h : EvGA N ta σ H G m) (hm : m ≤ 1000) : EvT N (tTup ta) σ H G m := fun H1 S Q q =>
  h H1 S _ fun vs H2 S2 l xs => ⟨by rw [l, sizeLine_eq]; omega, fun p hp => q (.ref p) _ (S2.trans (same_new hp)) ⟨p, vs, rfl, ((t.same S).same S2).new hp, upd_same, Nat.le_of_eq l, fun x hx => (xs x hx).same (same_new hp)⟩⟩
theorem evt_sl (t : Tr N H) (h : EvT N te σ H G m) (hl : EvO tl σ) (hh : EvO th σ) : EvT N (tSl (rSlA K) te tl th) σ H G m := fun H1 S Q q =>
  h H1 S _ fun v H2 S2 ⟨a, xs, ev, n, e, l, x⟩ => by
    subst ev
    refine hl H2 _ fun lo => hh H2 _ fun hi => slA_any e fun b ys H3 S3 e3 w sub l3 => ?_
    refine q _ H3 (S2.trans S3) ⟨b, ys, rfl, ?_, e3, by omega, fun y hy => (x y (sub y hy)).same S3⟩
    rcases w with w | w
    · rw [w]; exact n
    · exact ((t.same S).same S2).new w
theorem evt_cat {k : Nat} (t : Tr N H) (h : EvT N te σ H G m) (h2 : EvT N tf σ H G k) (hz : m + k ≤ 1000) : EvT N (tOp (rCatA K) te tf) σ H G (m + k) := fun H1 S Q q =>
  h H1 S _ fun v H2 S2 ⟨a, xs, ev, n, e, l, x⟩ => by
    subst ev
    refine h2 H2 (S.trans S2) _ fun w H3 S3 ⟨b, ys, ew, n3, e3, l3, x3⟩ => ?_
    subst ew
    refine catA_any (S3 _ _ e) e3 (by omega) fun c H4 S4 e4 wh => q _ H4 ((S2.trans S3).trans S4) ⟨c, _, rfl, ?_, e4, by rw [List.length_append]; omega, fun y hy => ?_⟩
    · rcases wh with z | z | z
      · rw [z]; exact n
      · rw [z]; exact n3
      · exact (((t.same S).same S2).same S3).new z
    · rcases List.mem_append.mp hy with z | z
      · exact ((x y z).same S3).same S4
      · exact (x3 y z).same S4
theorem evt_rev (t : Tr N H) (h : EvT N te σ H G m) : EvT N (tRevT te) σ H G m := fun H1 S Q q =>
  h H1 S _ fun v H2 S2 ⟨a, xs, ev, n, e, l, x⟩ => ⟨a, xs, ev, e, fun p hp => q _ _ (S2.trans (same_new hp)) ⟨p, _, rfl, ((t.same S).same S2).new hp, upd_same, by rw [List.length_reverse]; exact l, fun y hy => (x y (List.mem_reverse.mp hy)).same (same_new hp)⟩⟩
/-- list(t) -/
theorem evg_listT (t : Tr N H) (h : EvT N te σ H G' m) (g : ∀ ds : List PyData, ds.length ≤ m → (∀ d ∈ ds, G' d) → G (.list ds)) : EvG N (tCB rListT (tCons te tNil)) σ H G := fun H1 S Q q =>
  h H1 S _ fun v H2 S2 ⟨a, xs, ev, n, e, l, x⟩ => ⟨a, xs, by rw [ev], e, fun p hp hs => q _ _ (S2.trans (same_new hp))
    (is_lst (((t.same S).same S2).new hp) upd_same hs (fun y hy => (x y hy).same (same_new hp)) fun ds e2 => g ds (by omega))⟩
/-- a value by itself: what a reading leads to, for sure, the heap as it is -/
theorem evg_to {v : V} (h : ∀ (H1 : Hp) (Q : VK), Q v H1 → te σ H1 Q) (x : ∀ H', Is N H' G v) : EvG N te σ H G := fun H1 _ Q q => h H1 Q (q v H1 (Same.refl _) (x H1))
end
/-! data without dicts, for comparisons -/
mutual
theorem Da.dp {K : PySem.W.Frag} {H : Hp} : ∀ {v : V} {d : PyData}, Da H v d → d.canLay0 = true → Dp K H v d
  | _, _, .non, _ => .non
  | _, _, .bl b, _ => .bl b
  | _, _, .int i, _ => .int i
  | _, _, .str x, _ => .str x
  | _, _, .lst e _ t, h => .lst (SqL.of e) (DaAll.dp t (by simpa [PyData.canLay0] using h))
  | _, _, .tup e t, h => .tup (SqT.of e) (DaAll.dp t (by simpa [PyData.canLay0] using h))
  | _, _, .dct e t, h => by simp [PyData.canLay0] at h
theorem DaAll.dp {K : PySem.W.Frag} {H : Hp} : ∀ {vs : List V} {ds : List PyData}, DaAll H vs ds → PyData.canLayAll0 ds = true → DpAll K H vs ds
  | _, _, .nil, _ => .nil
  | _, _, .cons h t, e => by
    simp only [PyData.canLayAll0, Bool.and_eq_true] at e
    exact .cons (Da.dp h e.1) (DaAll.dp t e.2)
end
end G
namespace G
open PySem PySem.Spec PyProof.Rows L2
theorem s_set {te : TE} {i : Nat} {u : TS} {D : Ends} {σ : L2.St} {H : Hp} (h : te σ H fun x H1 => u D (σ.set i (some x)) H1) : tSeq (tAsg te (gName i)) u D σ H := h
theorem s_ret {te : TE} {D : Ends} {σ : L2.St} {H : Hp} (h : te σ H D.rt) : tRet te D σ H := h
theorem s_seq {t u : TS} {D : Ends} {σ : L2.St} {H : Hp} (h : t { D with nx := u D } σ H) : tSeq t u D σ H := h
theorem s_if {c : TT} {t u : TS} {D : Ends} {σ : L2.St} {H : Hp} (h : c σ H fun b H1 => if b = true then t D σ H1 else u D σ H1) : tIfS c t u D σ H := h
end G
namespace G
open PySem PySem.Spec PyProof.Rows L2
theorem t_op {r : R2} {ta tb : TE} {σ : L2.St} {H : Hp} {Q : VK} (h : ta σ H fun x H1 => tb σ H1 fun y H2 => r x y H2 Q) : tOp r ta tb σ H Q := h
theorem t_cons {ta : TE} {tr : TA} {σ : L2.St} {H : Hp} {Q : List V → Hp → Prop} (h : ta σ H fun x H1 => tr σ H1 fun xs H2 => Q (x :: xs) H2) : tCons ta tr σ H Q := h
end G

namespace G
open PySem PySem.Spec PyProof.Rows L2
/-! ### lists that are put together, with a word about their items -/
def EvP (ta : TA) (σ : L2.St) (H : Hp) (P : Hp → List V → Prop) (m : Nat) : Prop := ∀ H1, Same H H1 → ∀ Q : List V → Hp → Prop, (∀ vs H2, Same H1 H2 → vs.length = m → P H2 vs → Q vs H2) → ta σ H1 Q
def Stays (P : Hp → List V → Prop) : Prop := ∀ H H' vs, Same H H' → P H vs → P H' vs
section
variable {σ : L2.St} {H : Hp} {P P0 P1 : Hp → List V → Prop} {te : TE} {ta : TA} {m : Nat} {Q : VK}
theorem lstP (h : EvP ta σ H P m) (hm : m ≤ 1000) (st : Stays P) (k : ∀ p vs H', Same H H' → H p = none → H' p = some (.lst vs) → vs.length = m → P H' vs → Q (.ref p) H') : tLstS ta σ H Q :=
  h H (Same.refl _) _ fun vs H2 S2 l p => ⟨by rw [l, sizeLine_eq]; omega, fun a ha hs => k a vs _ (S2.trans (same_new ha)) (Same.free S2 ha) upd_same l (st _ _ _ (same_new ha) p)⟩
theorem catP {i : Nat} {l : Addr} {xs : List V} {n : Nat} (hσ : σ[i]? = some (some (.ref l))) (hl : H l = some (.lst xs)) (p0 : P0 H xs) (st0 : Stays P0) (hn : xs.length = n) (h : EvP ta σ H P1 m) (st1 : Stays P1) (hm : n + m ≤ 1000)
    (both : ∀ H xs ys, P0 H xs → P1 H ys → P H (xs ++ ys)) (st : Stays P) (k : ∀ p vs H', Same H H' → H p = none → H' p = some (.lst vs) → vs.length = n + m → P H' vs → Q (.ref p) H') : tOp rCat (tVar i) (tLstS ta) σ H Q := by
  refine ⟨_, hσ, lstP h (by omega) st1 fun p ys H1 S1 np hp ly py => ?_⟩
  refine ⟨_, _, _, _, rfl, rfl, S1 _ _ hl, hp, by rw [hn, ly, sizeLine_eq]; omega, fun q nq => ?_⟩
  exact k q _ _ (S1.trans (same_new nq)) (Same.free S1 nq) upd_same (by rw [List.length_append, hn, ly]) (st _ _ _ (same_new nq) (both _ _ _ (st0 _ _ _ S1 p0) py))
/-- truth values -/
def Bls (bs : List Bool) : Hp → List V → Prop := fun _ vs => vs = bs.map V.bl
theorem bls_stays (bs : List Bool) : Stays (Bls bs) := fun _ _ _ _ h => h
theorem evb_nil : EvP tNil σ H (Bls []) 0 := fun H1 _ Q q => q [] H1 (Same.refl _) rfl rfl
theorem evb_is {K : PySem.W.Frag} {e C Ci : Addr} {v : V} {b : Bool} {bs : List Bool} {i : Nat} (hσ : σ[i]? = some (some (.ref e))) (T : EC K C) (he : ErrAt H e C v) (hk : PySem.W.kitOne K (.ref C) (.ref Ci) = some b) (hr : EvP ta σ H (Bls bs) m) :
    EvP (tCons (tCB (fun xs H Q => ∃ (a C : Addr) (v c : V) (u : Value) (b : Bool), xs = [.ref a, c] ∧ ClsV c u ∧ EC K C ∧ ErrAt H a C v ∧ PySem.W.kitOne K (.ref C) u = some b ∧ Q (.bl b) H) (tCons (tVar i) (tCons (tC (.ref Ci)) tNil))) ta) σ H (Bls (b :: bs)) (m + 1) :=
  fun H1 S Q q => ⟨_, hσ, e, C, v, _, _, b, rfl, .own Ci, T, he.same S, hk, hr H1 S _ fun vs H2 S2 l p => q _ H2 S2 (by rw [List.length_cons, l]) (by rw [p]; rfl)⟩
theorem bls_app {bs cs : List Bool} : ∀ (H : Hp) (xs ys : List V), Bls bs H xs → Bls cs H ys → Bls (bs ++ cs) H (xs ++ ys) := fun _ xs ys h1 h2 => by rw [h1, h2]; exact (List.map_append).symm
/-- errors that keep v, one of each class -/
def Ers (v : V) (Cs : List Addr) : Hp → List V → Prop := fun H vs => Paired (fun x C => ∃ e, x = .ref e ∧ ErrAt H e C v) vs Cs
theorem ers_stays (v : V) (Cs : List Addr) : Stays (Ers v Cs) := fun _ _ _ S h => Paired.mapP h fun _ _ ⟨e, x, y⟩ => ⟨e, x, y.same S⟩
theorem eve_nil {v : V} : EvP tNil σ H (Ers v []) 0 := fun H1 _ Q q => q [] H1 (Same.refl _) rfl .nil
theorem eve_is {C : Addr} {v : V} {Cs : List Addr} {i : Nat} (hσ : σ[i]? = some (some v)) (hr : EvP ta σ H (Ers v Cs) m) : EvP (tCons (tErr C (tCons (tVar i) tNil)) ta) σ H (Ers v (C :: Cs)) (m + 1) :=
  fun H1 S Q q => ⟨_, hσ, v, rfl, fun a H2 na S2 ea => hr H2 (S.trans S2) _ fun vs H3 S3 l p => q _ H3 (S2.trans S3) (by rw [List.length_cons, l]) (.cons ⟨a, rfl, ea.same S3⟩ p)⟩
theorem ers_app {v : V} {Bs Cs : List Addr} : ∀ (H : Hp) (xs ys : List V), Ers v Bs H xs → Ers v Cs H ys → Ers v (Bs ++ Cs) H (xs ++ ys) := fun H xs ys h1 h2 => by
  induction h1 with
  | nil => exact h2
  | cons h _ ih => exact .cons h ih
theorem ers_get {v : V} : ∀ {Cs : List Addr} {H : Hp} {vs : List V} {i : Nat} {x : V}, Ers v Cs H vs → vs[i]? = some x → ∃ e, x = .ref e ∧ ErrAt H e (Cs.getD i 0) v
  | _, _, _, _, _, .nil, h => by simp at h
  | _, _, _, 0, _, .cons h _, e => by obtain rfl := Option.some.inj e; exact h
  | _, _, _, i + 1, _, .cons _ t, e => ers_get (i := i) t e
end
end G
namespace G
open PySem PySem.Spec PyProof.Rows L2
/-- the written part's look at an error's class -/
def ecB (K : PySem.W.Frag) (fI C : Addr) : Bool :=
  decide (PySem.W.findIn K (.ref C) "__setattr__" = some (some (.builtin "object.__setattr__"))) &&
  (decide (PySem.W.subIn K (.ref C) (.type "BaseException") = some true) &&
  (decide (PySem.W.typeIn K (.ref C) = some (.type "type")) &&
  (PySem.W.keepIn K (.ref C) &&
  (PySem.W.hasDictIn K C &&
  (decide (PySem.W.findIn K (.ref C) "__getattribute__" = some (some (.builtin "BaseException.__getattribute__"))) &&
  (decide (PySem.W.findIn K (.ref C) "__getattr__" = some none) &&
  (decide (PySem.W.findIn K (.ref C) "value" = some none) &&
  (decide (PySem.W.findIn K (.ref C) "__class__" = some (some (.builtin "object.__class__"))) &&
  (decide (PySem.W.mroIn K C (.type "object") = some true) &&
  decide (PySem.W.findIn K (.ref C) "__init__" = some (some (.ref fI))))))))))))
theorem ecB_ok {K : PySem.W.Frag} {fI C : Addr} (h : ecB K fI C = true) (c : ∃ nm q N bs bm sn sub ab col dd k0 k1 k2 k3 k5, K.lookup C = some (excClassObj nm q C N bs bm true sn sub ab col dd k0 k1 k2 k3 k5 "ValueError.__new__") ∧ PySem.HandSPX.refsVE bm = true) :
    EC K C ∧ PySem.W.findIn K (.ref C) "__init__" = some (some (.ref fI)) := by
  unfold ecB at h
  simp only [Bool.and_eq_true, decide_eq_true_eq] at h
  obtain ⟨h1, h2, h3, h4, h5, h6, h7, h8, h9, h10, h11⟩ := h
  exact ⟨⟨⟨c, h1, h2, h3, h4⟩, h5, h6, h7, h8, h9, h10⟩, h11⟩
/-- which classes are which -/
def kindsB (K : PySem.W.Frag) (cs : List Addr) (b : Addr) : Bool :=
  ((List.range cs.length).all fun j => (List.range cs.length).all fun i => decide (PySem.W.kitOne K (.ref (cs.getD j 0)) (.ref (cs.getD i 0)) = some (decide (j = i)))) &&
  (cs.all (fun c => decide (PySem.W.kitOne K (.ref b) (.ref c) = some false) && (decide (PySem.W.kitOne K (.ref c) (.ref b) = some true) && decide (PySem.W.kitOne K (.ref c) (.type "ValueError") = some true))) &&
  decide (PySem.W.kitOne K (.ref b) (.type "ValueError") = some true))
structure Kinds (K : PySem.W.Frag) (cs : List Addr) (b : Addr) : Prop where
  two : ∀ j i, j < cs.length → i < cs.length → PySem.W.kitOne K (.ref (cs.getD j 0)) (.ref (cs.getD i 0)) = some (decide (j = i))
  low : ∀ c ∈ cs, PySem.W.kitOne K (.ref b) (.ref c) = some false
  up : ∀ c ∈ cs, PySem.W.kitOne K (.ref c) (.ref b) = some true
  ve : ∀ c ∈ cs, PySem.W.kitOne K (.ref c) (.type "ValueError") = some true
  bve : PySem.W.kitOne K (.ref b) (.type "ValueError") = some true
theorem kindsB_ok {K : PySem.W.Frag} {cs : List Addr} {b : Addr} (h : kindsB K cs b = true) : Kinds K cs b := by
  unfold kindsB at h
  simp only [Bool.and_eq_true, List.all_eq_true, decide_eq_true_eq, List.mem_range] at h
  obtain ⟨h1, h2, h3⟩ := h
  exact ⟨fun j i hj hi => h1 j hj i hi, fun c hc => (h2 c hc).1, fun c hc => (h2 c hc).2.1, fun c hc => (h2 c hc).2.2, h3⟩
end G

namespace G
open PySem PySem.Spec PyProof.Rows L2

/-! ### operators of an own class whose instances have a dict -/
section
variable {prog : Program} {w : World} {A : Around} {E : Value → Shared → Prop} {s : Shared} {K : PySem.W.Frag} {x C L f f0 : Addr} {h₀ : Heap} {m : Str → Option Value} {ox : Obj} {od : Option Obj} {nm T : String}
theorem binR_K {op : Operator} {i : Int} {t : Tok} {id : String} {B : Builtin} {Q : Value → Shared → Prop} (F : Fr h₀ L s.heap m) (X₀ : K.In h₀) (I : PySem.W.InstAt s.heap x ox C od) (hc : PySem.W.selfFirst K C = true)
    (hs0 : PySem.W.findIn K (.ref C) (PySem.dunder op.info.2) = some (some (.ref f0)))
    (hs : PySem.W.findIn K (.ref C) (dunderR op.info.2) = some (some (.ref f))) (hf : PySem.W.isFn K (.ref f) = true) (hsub : PySem.W.subIn K (.ref C) (.type "int") = some false)
    (hfill : fillsNumberSlot (.type "int") op.info.2 = pure true) (slot : Slot "int" (dunder op.info.2) id) (entry : entryFor table id = some B) (args : argsOk id ⟨[.int i t, .ref x], []⟩)
    (decl : ∀ (R : Result → Shared → Prop), R (.ok (.ret .notImplemented)) s → wpAny (model prog w) A.in1 (B ⟨[.int i t, .ref x], []⟩) (GQ.FinOf prog w A R) (fun e s' => R (.error e) s') s)
    (h : wpAny (model prog w) A (call (.ref f) [.ref x, .int i t]) (PySem.W.CmpBack Q) E s) : wpAny (model prog w) A (binaryOp op (.int i t) (.ref x)) Q E s := by
  have X := X₀.keeps F.keep
  obtain ⟨cd, rest, hcd, hm⟩ := PySem.W.ksp_first hc
  rcases hi : op.info with ⟨sym, nm'⟩
  rw [hi] at hs hs0 hfill slot
  dsimp only at hs hs0 hfill slot
  have one := PySem.W.ksp_try X I hs hf h
  have L2 : PySem.W.Looks (model prog w) s.heap (typeOf (.ref x)) (.ref C) := I.type
  have L3 : PySem.W.Looks (model prog w) s.heap (fillsNumberSlot (.ref C) nm') true := PySem.W.fills_K X hcd hm hs0
  have L5 : PySem.W.Looks (model prog w) s.heap (isSubtype (.ref C) (.type "int")) false := PySem.W.looks_subIn X hsub
  have hne : (Value.type "int" == Value.ref C) = false := Bool.eq_false_iff.mpr fun q => by cases beq_iff_eq.mp q
  have hT := typeIs_int s i t
  simp only [binaryOp, hi]
  refine wpAny_holding (wpAny_bind ?_)
  unfold binaryOp1
  refine wpAny_bind (wpAny_typeOf hT (wpAny_bind (L2.here (wpAny_bind (wpAny_of_eq hfill ?_)))))
  simp only [hne, Bool.false_eq_true, if_false]
  refine wpAny_bind (L3.here ?_)
  simp only [Bool.and_self, if_true]
  refine wpAny_bind (L5.here ?_)
  have hpy : numberSlotInPython (.type "int") nm' = pure false := rfl
  simp only [Bool.false_eq_true, if_false, pure_bind, Bool.not_false, Bool.and_self, if_true, hpy]
  refine wpAny_bind (wpAny_tryMethod_declines hT slot (GQ.call_here slot hT entry args (decl _ ⟨rfl, ?_⟩)))
  refine wpAny_bind (wpAny_mono one (fun r s' hr' => ?_) fun _ _ e => e)
  obtain ⟨v, rfl, hq⟩ := hr'
  exact wpAny_bind (wpAny_rule (wpAny_pure (wpAny_pure hq)))

theorem cmpR_K {op : CmpOp} {i : Int} {t : Tok} {id : String} {B : Builtin} {Q : Value → Shared → Prop} (hu : A.units < cLine) (F : Fr h₀ L s.heap m) (X₀ : K.In h₀) (I : PySem.W.InstAt s.heap x ox C od)
    (hs : PySem.W.findIn K (.ref C) (cmpInfo op).2.2 = some (some (.ref f))) (hf : PySem.W.isFn K (.ref f) = true) (hsub : PySem.W.subIn K (.ref C) (.type "int") = some false)
    (slot : Slot "int" (cmpInfo op).2.1 id) (entry : entryFor table id = some B) (args : argsOk id ⟨[.int i t, .ref x], []⟩)
    (decl : ∀ (R : Result → Shared → Prop), R (.ok (.ret .notImplemented)) s → wpAny (model prog w) A.in1 (B ⟨[.int i t, .ref x], []⟩) (GQ.FinOf prog w A R) (fun e s' => R (.error e) s') s)
    (h : wpAny (model prog w) A (call (.ref f) [.ref x, .int i t]) (PySem.W.CmpBack Q) E s) : wpAny (model prog w) A (richCompare op (.int i t) (.ref x)) Q E s := by
  have X := X₀.keeps F.keep
  have hT := typeIs_int s i t
  have one : wpAny (model prog w) A (tryCompare (.ref x) (cmpInfo op).2.2 (.int i t)) (fun r s' => ∃ v, r = some v ∧ Q v s') E s := by
    unfold tryCompare
    refine wpAny_bind (PySem.W.ifBound_K X I hs hf (wpAny_mono h (fun v s' hv => ?_) fun _ _ e => e))
    cases v <;> first | exact hv.elim | exact wpAny_pure ⟨_, rfl, hv⟩
  have hne : (Value.type "int" != Value.ref C) = true := by
    have h0 : (Value.type "int" == Value.ref C) = false := Bool.eq_false_iff.mpr fun q => by cases beq_iff_eq.mp q
    unfold bne
    rw [h0]
    rfl
  unfold richCompare
  simp only [hT.oneThing_none]
  refine wpAny_holding (wpAny_bind (wpAny_cRoomFor hu ?_))
  refine wpAny_bind (wpAny_typeOf hT (wpAny_bind (I.type.here ?_)))
  simp only [hne, if_true]
  refine wpAny_bind ((PySem.W.looks_subIn X hsub).here ?_)
  simp only [Bool.false_eq_true, if_false, Bool.not_false, if_true]
  refine wpAny_bind (wpAny_tryCompare_declines hT slot (GQ.call_here slot hT entry args (decl _ ⟨rfl, ?_⟩)))
  refine wpAny_bind (wpAny_mono one (fun r s' z => ?_) fun _ _ e => e)
  obtain ⟨v, rfl, hq⟩ := z
  exact wpAny_pure hq
/-- what a builtin of int says to an instance -/
def Decl (B : Builtin) : Prop := ∀ (prog : Program) (w : World) (A : Around) (R : Result → Shared → Prop) (s : Shared) (i : Int) (t : Tok) (x C dx : Addr), s.heap.get? x = some (PySem.W.instObj C dx) → R (.ok (.ret .notImplemented)) s →
  wpAny (model prog w) A.in1 (B ⟨[.int i t, .ref x], []⟩) (GQ.FinOf prog w A R) (fun e s' => R (.error e) s') s
theorem decl_add : Decl Builtin.«int.__add__» := fun prog w A R s i t x C dx hl h => by
  obtain ⟨hp, g, d, tk, os⟩ := s
  wp_walk using AutoSeq1.wpAny_loadPart' hl, wpAny_load' hl
  exact h
theorem decl_sub : Decl Builtin.«int.__sub__» := fun prog w A R s i t x C dx hl h => by
  obtain ⟨hp, g, d, tk, os⟩ := s
  wp_walk using AutoSeq1.wpAny_loadPart' hl, wpAny_load' hl
  exact h
theorem decl_mul : Decl Builtin.«int.__mul__» := fun prog w A R s i t x C dx hl h => by
  obtain ⟨hp, g, d, tk, os⟩ := s
  wp_walk using AutoSeq1.wpAny_loadPart' hl, wpAny_load' hl
  exact h
theorem decl_lt : Decl Builtin.«int.__lt__» := fun prog w A R s i t x C dx hl h => by
  obtain ⟨hp, g, d, tk, os⟩ := s
  wp_walk using AutoSeq1.wpAny_loadPart' hl, wpAny_load' hl
  exact h
theorem decl_le : Decl Builtin.«int.__le__» := fun prog w A R s i t x C dx hl h => by
  obtain ⟨hp, g, d, tk, os⟩ := s
  wp_walk using AutoSeq1.wpAny_loadPart' hl, wpAny_load' hl
  exact h
theorem decl_gt : Decl Builtin.«int.__gt__» := fun prog w A R s i t x C dx hl h => by
  obtain ⟨hp, g, d, tk, os⟩ := s
  wp_walk using AutoSeq1.wpAny_loadPart' hl, wpAny_load' hl
  exact h
theorem decl_ge : Decl Builtin.«int.__ge__» := fun prog w A R s i t x C dx hl h => by
  obtain ⟨hp, g, d, tk, os⟩ := s
  wp_walk using AutoSeq1.wpAny_loadPart' hl, wpAny_load' hl
  exact h
end

section
variable {X : Cx} {CX : CXT} {pins : List (Addr × Obj)} {σ : L2.St} {H : Hp} {s : Shared} {a C dx p g f f0 : Addr} {fs : List (Str × V)} {n : Nat} {sp : Sp} {E : XK}
theorem ins_inst (I : Inv X pins σ H s) (h : H a = some (.ins C dx fs)) : ∃ (od : Obj) (mA : Str → Option Value), PySem.W.InstAt s.heap a (PySem.W.instObj C dx) C (some od) ∧ (∀ name, PySem.W.lookIn name od = some (mA name)) ∧ ∀ f, RelO (fs.lookup f) (mA f) := by
  obtain ⟨mA, J, r, _⟩ := ins_get I.hok h
  obtain ⟨od, J2, l⟩ := J.look
  exact ⟨od, mA, J2, l, r⟩
/-- a def of no defaults, by position -/
theorem fnR {fd : FuncData} {ps : List Str} (F : FnOk X.prog X.w X.K X.mg X.base CX n g fd ps sp) (b : Binds X.K fd ps []) : FnR X.prog X.w X.K X.mg X.base CX n g sp :=
  (FnOk.raw F b .nil).imp fun vs H Q E h => by rw [List.append_nil]; exact h
/-- x op y: both instances; y an int -/
def rBinK (C : Addr) (sp : Sp) (E : XK) : R2 := fun x y H Q => ∃ a b dx dy fs gs, x = .ref a ∧ y = .ref b ∧ H a = some (.ins C dx fs) ∧ H b = some (.ins C dy gs) ∧ sp [x, y] H Q E
def rBinT (C : Addr) (sp : Sp) (E : XK) : R2 := fun x y H Q => ∃ a dx fs i, x = .ref a ∧ y = .int i ∧ H a = some (.ins C dx fs) ∧ sp [x, y] H Q E
def rBinR (C : Addr) (sp : Sp) (E : XK) : R2 := fun x y H Q => ∃ a dx fs i, x = .int i ∧ y = .ref a ∧ H a = some (.ins C dx fs) ∧ sp [y, x] H Q E
/-- what the text says of the class's defs for op: __op__ at f, __rop__ at g -/
structure OpC (K : PySem.W.Frag) (C f g : Addr) (nm : String) : Prop where
  first : PySem.W.selfFirst K C = true
  at_ : PySem.W.findIn K (.ref C) (PySem.dunder nm) = some (some (.ref f))
  fn : PySem.W.isFn K (.ref f) = true
  rat : PySem.W.findIn K (.ref C) (dunderR nm) = some (some (.ref g))
  rfn : PySem.W.isFn K (.ref g) = true
  i1 : ∃ fo, PySem.W.findIn K (.type "int") (PySem.dunder nm) = some fo
  i2 : ∃ ro, PySem.W.findIn K (.type "int") (dunderR nm) = some ro
  s1 : PySem.W.subIn K (.type "int") (.ref C) = some false
  s2 : PySem.W.subIn K (.ref C) (.type "int") = some false
def opcB (K : PySem.W.Frag) (C f g : Addr) (nm : String) : Bool :=
  PySem.W.selfFirst K C && decide (PySem.W.findIn K (.ref C) (PySem.dunder nm) = some (some (.ref f))) && PySem.W.isFn K (.ref f) && decide (PySem.W.findIn K (.ref C) (dunderR nm) = some (some (.ref g))) && PySem.W.isFn K (.ref g)
    && (PySem.W.findIn K (.type "int") (PySem.dunder nm)).isSome && (PySem.W.findIn K (.type "int") (dunderR nm)).isSome && decide (PySem.W.subIn K (.type "int") (.ref C) = some false) && decide (PySem.W.subIn K (.ref C) (.type "int") = some false)
theorem opcB_ok {K : PySem.W.Frag} {C f g : Addr} {nm : String} (h : opcB K C f g nm = true) : OpC K C f g nm := by
  unfold opcB at h
  simp only [Bool.and_eq_true, decide_eq_true_eq] at h
  obtain ⟨⟨⟨⟨⟨⟨⟨⟨h1, h2⟩, h3⟩, h4⟩, h5⟩, h6⟩, h7⟩, h8⟩, h9⟩ := h
  exact ⟨h1, h2, h3, h4, h5, Option.isSome_iff_exists.mp h6, Option.isSome_iff_exists.mp h7, h8, h9⟩
theorem op_binK {op : Operator} (O : OpC X.K C f g op.info.2) (F : FnR X.prog X.w X.K X.mg X.base CX n f sp) (hr : Room n X.A) (hx : Passes CX X E) : OpR X (binaryOp op) (rBinK C sp E) := by
  intro pins s σ H x y v u Q I rx ry h
  obtain ⟨a, b, dx, dy, fs, gs, rfl, rfl, ha, hb, q⟩ := h
  cases (show v = Value.ref a from rx)
  cases (show u = Value.ref b from ry)
  obtain ⟨od, mA, J, _⟩ := ins_inst I ha
  obtain ⟨od', mA', J', _⟩ := ins_inst I hb
  obtain ⟨m, hF⟩ := I.fr
  refine PySem.W.binop_K hF I.ok.mod.kin J J'.type O.first O.at_ O.fn ?_
  refine wpAny_mono (wpAny_call (run_fnR (us := [.ref a, .ref b]) (vs := [.ref a, .ref b]) F hr hx I (.cons rfl (.cons rfl .nil)) q)) (fun w s' z => ?_) fun _ _ x => x
  obtain ⟨z', H', I', rz, qz⟩ := z
  exact SlX.cmpback rz ⟨z', H', I', rz, qz⟩
theorem op_binT {op : Operator} (O : OpC X.K C f g op.info.2) (F : FnR X.prog X.w X.K X.mg X.base CX n f sp) (hr : Room n X.A) (hx : Passes CX X E) : OpR X (binaryOp op) (rBinT C sp E) := by
  intro pins s σ H x y v u Q I rx ry h
  obtain ⟨a, dx, fs, i, rfl, rfl, ha, q⟩ := h
  cases (show v = Value.ref a from rx)
  obtain ⟨t, e⟩ := (show ∃ t, u = Value.int i t from ry)
  cases e
  obtain ⟨od, mA, J, _⟩ := ins_inst I ha
  obtain ⟨m, hF⟩ := I.fr
  obtain ⟨fo, h1⟩ := O.i1
  obtain ⟨ro, h2⟩ := O.i2
  refine PySem.W.ksp_binT hF I.ok.mod.kin J rfl O.first O.at_ O.fn O.rat (.inr ⟨g, rfl⟩) h1 h2 O.s1 ?_
  refine wpAny_mono (wpAny_call (run_fnR (us := [.ref a, .int i t]) (vs := [.ref a, .int i]) F hr hx I (.cons rfl (.cons ⟨t, rfl⟩ .nil)) q)) (fun w s' z => ?_) fun _ _ x => x
  obtain ⟨z', H', I', rz, qz⟩ := z
  exact SlX.cmpback rz ⟨z', H', I', rz, qz⟩
/-- the builtin of int for op -/
structure IntOp (nm : String) (id : String) (B : Builtin) : Prop where
  fill : fillsNumberSlot (.type "int") nm = pure true
  slot : Slot "int" (dunder nm) id
  entry : entryFor table id = some B
  args : ∀ a b, argsOk id ⟨[a, b], []⟩
  decl : Decl B
theorem io_add : IntOp "add" "int.__add__" Builtin.«int.__add__» := ⟨F.fills_int_add, F.slot_int_add, F.entry_int_add, F.args_int_add_2, decl_add⟩
theorem io_sub : IntOp "sub" "int.__sub__" Builtin.«int.__sub__» := ⟨F.fills_int_sub, F.slot_int_sub, F.entry_int_sub, F.args_int_sub_2, decl_sub⟩
theorem io_mul : IntOp "mul" "int.__mul__" Builtin.«int.__mul__» := ⟨F.fills_int_mul, F.slot_int_mul, F.entry_int_mul, F.args_int_mul_2, decl_mul⟩
theorem op_binR {op : Operator} {id : String} {B : Builtin} (O : OpC X.K C f g op.info.2) (T : IntOp op.info.2 id B) (F : FnR X.prog X.w X.K X.mg X.base CX n g sp) (hr : Room n X.A) (hx : Passes CX X E) : OpR X (binaryOp op) (rBinR C sp E) := by
  intro pins s σ H x y v u Q I rx ry h
  obtain ⟨a, dx, fs, i, rfl, rfl, ha, q⟩ := h
  cases (show u = Value.ref a from ry)
  obtain ⟨t, e⟩ := (show ∃ t, v = Value.int i t from rx)
  cases e
  obtain ⟨od, mA, J, _⟩ := ins_inst I ha
  obtain ⟨m, hF⟩ := I.fr
  refine binR_K hF I.ok.mod.kin J O.first O.at_ O.rat O.rfn O.s2 T.fill T.slot T.entry (T.args _ _) (fun R => T.decl _ _ _ R _ _ _ _ _ _ J.at_) ?_
  refine wpAny_mono (wpAny_call (run_fnR (us := [.ref a, .int i t]) (vs := [.ref a, .int i]) F hr hx I (.cons rfl (.cons ⟨t, rfl⟩ .nil)) q)) (fun w s' z => ?_) fun _ _ x => x
  obtain ⟨z', H', I', rz, qz⟩ := z
  exact SlX.cmpback rz ⟨z', H', I', rz, qz⟩
/-- comparisons: the class's def at f, the one for the other side at g -/
structure CmpC (K : PySem.W.Frag) (C f g : Addr) (op : CmpOp) : Prop where
  at_ : PySem.W.findIn K (.ref C) (cmpInfo op).2.1 = some (some (.ref f))
  fn : PySem.W.isFn K (.ref f) = true
  rat : PySem.W.findIn K (.ref C) (cmpInfo op).2.2 = some (some (.ref g))
  rfn : PySem.W.isFn K (.ref g) = true
  nf : PySem.W.notFirst K C (.ref C) = true
  nfi : PySem.W.notFirst K C (.type "int") = true
  s2 : PySem.W.subIn K (.ref C) (.type "int") = some false
def cmpcB (K : PySem.W.Frag) (C f g : Addr) (op : CmpOp) : Bool :=
  decide (PySem.W.findIn K (.ref C) (cmpInfo op).2.1 = some (some (.ref f))) && PySem.W.isFn K (.ref f) && decide (PySem.W.findIn K (.ref C) (cmpInfo op).2.2 = some (some (.ref g))) && PySem.W.isFn K (.ref g)
    && PySem.W.notFirst K C (.ref C) && PySem.W.notFirst K C (.type "int") && decide (PySem.W.subIn K (.ref C) (.type "int") = some false)
theorem cmpcB_ok {K : PySem.W.Frag} {C f g : Addr} {op : CmpOp} (h : cmpcB K C f g op = true) : CmpC K C f g op := by
  unfold cmpcB at h
  simp only [Bool.and_eq_true, decide_eq_true_eq] at h
  obtain ⟨⟨⟨⟨⟨⟨h1, h2⟩, h3⟩, h4⟩, h5⟩, h6⟩, h7⟩ := h
  exact ⟨h1, h2, h3, h4, h5, h6, h7⟩
theorem op_cmpK {op : CmpOp} (hop : ∀ a b, compareOp op a b = richCompare op a b) (O : CmpC X.K C f g op) (F : FnR X.prog X.w X.K X.mg X.base CX n f sp) (hr : Room n X.A) (hx : Passes CX X E) : OpR X (compareOp op) (rBinK C sp E) := by
  intro pins s σ H x y v u Q I rx ry h
  obtain ⟨a, b, dx, dy, fs, gs, rfl, rfl, ha, hb, q⟩ := h
  cases (show v = Value.ref a from rx)
  cases (show u = Value.ref b from ry)
  obtain ⟨od, mA, J, _⟩ := ins_inst I ha
  obtain ⟨od', mA', J', _⟩ := ins_inst I hb
  obtain ⟨m, hF⟩ := I.fr
  rw [hop]
  refine PySem.W.cmp_K (op := op) (tb := .ref C) hr.units0 hF I.ok.mod.kin J J'.type O.nf O.at_ O.fn ?_
  refine wpAny_mono (wpAny_call (run_fnR (us := [.ref a, .ref b]) (vs := [.ref a, .ref b]) F hr hx I (.cons rfl (.cons rfl .nil)) q)) (fun w s' z => ?_) fun _ _ x => x
  obtain ⟨z', H', I', rz, qz⟩ := z
  exact SlX.cmpback rz ⟨z', H', I', rz, qz⟩
theorem op_cmpT {op : CmpOp} (hop : ∀ a b, compareOp op a b = richCompare op a b) (O : CmpC X.K C f g op) (F : FnR X.prog X.w X.K X.mg X.base CX n f sp) (hr : Room n X.A) (hx : Passes CX X E) : OpR X (compareOp op) (rBinT C sp E) := by
  intro pins s σ H x y v u Q I rx ry h
  obtain ⟨a, dx, fs, i, rfl, rfl, ha, q⟩ := h
  cases (show v = Value.ref a from rx)
  obtain ⟨t, e⟩ := (show ∃ t, u = Value.int i t from ry)
  cases e
  obtain ⟨od, mA, J, _⟩ := ins_inst I ha
  obtain ⟨m, hF⟩ := I.fr
  rw [hop]
  refine PySem.W.cmp_K (op := op) (tb := .type "int") hr.units0 hF I.ok.mod.kin J (PySem.W.Looks.of_pure rfl) O.nfi O.at_ O.fn ?_
  refine wpAny_mono (wpAny_call (run_fnR (us := [.ref a, .int i t]) (vs := [.ref a, .int i]) F hr hx I (.cons rfl (.cons ⟨t, rfl⟩ .nil)) q)) (fun w s' z => ?_) fun _ _ x => x
  obtain ⟨z', H', I', rz, qz⟩ := z
  exact SlX.cmpback rz ⟨z', H', I', rz, qz⟩
structure IntCmp (op : CmpOp) (id : String) (B : Builtin) : Prop where
  slot : Slot "int" (cmpInfo op).2.1 id
  entry : entryFor table id = some B
  args : ∀ a b, argsOk id ⟨[a, b], []⟩
  decl : Decl B
theorem ic_lt : IntCmp .Lt "int.__lt__" Builtin.«int.__lt__» := ⟨F.slot_int_lt, F.entry_int_lt, F.args_int_lt_2, decl_lt⟩
theorem ic_le : IntCmp .LtE "int.__le__" Builtin.«int.__le__» := ⟨F.slot_int_le, F.entry_int_le, F.args_int_le_2, decl_le⟩
theorem ic_gt : IntCmp .Gt "int.__gt__" Builtin.«int.__gt__» := ⟨F.slot_int_gt, F.entry_int_gt, F.args_int_gt_2, decl_gt⟩
theorem ic_ge : IntCmp .GtE "int.__ge__" Builtin.«int.__ge__» := ⟨F.slot_int_ge, F.entry_int_ge, F.args_int_ge_2, decl_ge⟩
theorem op_cmpR {op : CmpOp} {id : String} {B : Builtin} (hop : ∀ a b, compareOp op a b = richCompare op a b) (O : CmpC X.K C f g op) (T : IntCmp op id B) (F : FnR X.prog X.w X.K X.mg X.base CX n g sp) (hr : Room n X.A) (hx : Passes CX X E) : OpR X (compareOp op) (rBinR C sp E) := by
  intro pins s σ H x y v u Q I rx ry h
  obtain ⟨a, dx, fs, i, rfl, rfl, ha, q⟩ := h
  cases (show u = Value.ref a from ry)
  obtain ⟨t, e⟩ := (show ∃ t, v = Value.int i t from rx)
  cases e
  obtain ⟨od, mA, J, _⟩ := ins_inst I ha
  obtain ⟨m, hF⟩ := I.fr
  rw [hop]
  refine cmpR_K hr.units0 hF I.ok.mod.kin J O.rat O.rfn O.s2 T.slot T.entry (T.args _ _) (fun R => T.decl _ _ _ R _ _ _ _ _ _ J.at_) ?_
  refine wpAny_mono (wpAny_call (run_fnR (us := [.ref a, .int i t]) (vs := [.ref a, .int i]) F hr hx I (.cons rfl (.cons ⟨t, rfl⟩ .nil)) q)) (fun w s' z => ?_) fun _ _ x => x
  obtain ⟨z', H', I', rz, qz⟩ := z
  exact SlX.cmpback rz ⟨z', H', I', rz, qz⟩
/-- -x of an instance -/
def rUnK (C : Addr) (sp : Sp) (E : XK) : V → Hp → VK → Prop := fun x H Q => ∃ a dx fs, x = .ref a ∧ H a = some (.ins C dx fs) ∧ sp [x] H Q E
theorem un_negK (hs : PySem.W.findIn X.K (.ref C) "__neg__" = some (some (.ref f))) (hf : PySem.W.isFn X.K (.ref f) = true) (F : FnR X.prog X.w X.K X.mg X.base CX n f sp) (hr : Room n X.A) (hx : Passes CX X E) : UnR X (unaryOp .USub) (rUnK C sp E) := by
  intro pins s σ H x v Q I rx h
  obtain ⟨a, dx, fs, rfl, ha, q⟩ := h
  cases (show v = Value.ref a from rx)
  obtain ⟨od, mA, J, _⟩ := ins_inst I ha
  obtain ⟨m, hF⟩ := I.fr
  exact PySem.W.ksp_neg hF I.ok.mod.kin J hs hf (wpAny_call (run_fnR (us := [.ref a]) (vs := [.ref a]) F hr hx I (.cons rfl .nil) q))
end
end G

namespace G
open PySem PySem.Spec PyProof.Rows L2

/-! ### an error that is caught and kept -/
/-- an error of the class at C that was raised once -/
def exc (a C : Addr) (d : Option Addr) : HO := .ext fun h => ∃ (oe : Obj) (vs : Array Value), h.get? a = some oe ∧ Zc (.ref C) d oe ∧ oe.data = .fields vs
theorem exc_ok {P : Program} {w : World} {H : Hp} {h : Heap} {a C : Addr} {d : Option Addr} {oe : Obj} {vs : Array Value} (e : h.get? a = some oe) (z : Zc (.ref C) d oe) (dt : oe.data = .fields vs) : ObjOk P w H h a (exc a C d) :=
  ⟨⟨oe, vs, e, z, dt⟩, ⟨oe, e⟩, fun h1 h2 ⟨o, v, x, y, u⟩ k => ⟨o, v, k _ x, y, u⟩⟩
/-- the caught error, with what it keeps -/
def Caught (H : Hp) (a C : Addr) (v : V) : Prop := ∃ d, H a = some (exc a C (some d)) ∧ H d = some (.xd [("value", v)])
theorem Caught.same {H H' : Hp} (S : Same H H') {a C : Addr} {v : V} (e : Caught H a C v) : Caught H' a C v := let ⟨d, h1, h2⟩ := e; ⟨d, S _ _ h1, S _ _ h2⟩

section
variable {X : Cx} {pins : List (Addr × Obj)} {σ : L2.St} {H : Hp} {s : Shared} {a C : Addr}
/-- an object that is there, new since the entry, is tracked from now on -/
theorem adopt {o : HO} (I : Inv X pins σ H s) (hx : X.ex = []) (na : H a = none) (n0 : X.s_0.heap.get? a = none) (nL : a ≠ X.env.locals) (nc : ∀ x c, X.env.cells.lookup x = some c → c ≠ a) (np : ∀ p ∈ X.pn ++ pins, p.1 ≠ a)
    (new : ObjOk X.prog X.w (upd H a o) s.heap a o) : Inv X pins σ (upd H a o) s := by
  have old : ∀ {b : Addr} {u : HO}, H b = some u → upd H a o b = some u := fun {b u} e => by
    rw [upd_ne (fun z => by rw [z, na] at e; cases e)]
    exact e
  refine ⟨I.ok, I.os, I.bare, ⟨I.base.keep, I.base.slot, fun b ob e n hb => ?_, I.base.there, fun b xs e => old (I.base.tups b xs e), fun b ob u e => old (I.base.frzs b ob u e), fun b ps e => ?_⟩, I.loc, I.cell, ?_, fun x c e => ?_, fun p hp => ?_,
    I.hok.laidN (fun _ _ z => z) na new, I.len⟩
  · rw [upd_ne (fun z => by rw [z, n0] at e; cases e)]
    exact I.base.free b ob e n hb
  · obtain ⟨m, z⟩ := I.base.tbls b ps e
    exact ⟨m, old z⟩
  · rw [upd_ne (Ne.symm nL)]
    exact I.free
  · rw [upd_ne (nc x c e)]
    exact I.freeC x c e
  · obtain ⟨p1, p2, p3⟩ := I.pin p hp
    exact ⟨p1, by rw [upd_ne (np p hp)]; exact p2, p3⟩
end

/-- what 'except x as n' wishes, where the error is kept by the suite -/
def wAsT (K : PySem.W.Frag) (c : Value) (i : Nat) (ts : Addr → Value → Option Addr → TS) (D : Ends) : WX := fun cls d σ H =>
  PySem.W.exmOne K cls c = some true ∧ ∃ C, cls = .ref C ∧ ∀ a, H a = none → ts a cls d { nx := fun σ' H' => D.nx (σ'.set i none) (upd H' a (exc a C d)), rt := fun _ _ => False, bk := fun _ _ => False, ct := fun _ _ => False } (σ.set i (some (.ref a))) H
section
variable {X : Cx} {x n : Str} {c : Value} {i : Nat} {body suite : List Stmt} {b₀ : Stmt} {np pos pos' : Pos} {tb : WX → TS} {ts : Addr → Value → Option Addr → TS} {Wout : WX}
theorem ps_try_asT (hx : X.ex = []) (hs : X.stack = X.env :: X.outer) (hf : X.env.frame = some X.env.locals) (hN : X.N.Nodup) (hi : X.N[i]? = some n) (hln : X.env.kindOf n = some .local) (hc : Names X x c)
    (hb : ∀ (W : WX) (pn : List (Addr × Obj)) (xe : Value → Shared → Prop), Takes (X.tr pn xe) W → PassesOwn (model X.prog X.w) X.A X.env xe → PSs (X.tr pn xe) body (tb W))
    (hsu : ∀ (a : Addr) (oe : Obj) (cls : Value) (d : Option Addr) (pn : List (Addr × Obj)), Zc cls d oe → (∃ vs, oe.data = .fields vs) → PSs (X.suite a ((a, oe) :: pn)) (b₀ :: suite) (ts a cls d)) :
    PS X (.Try body [.ExceptHandler (some (.Name x np)) (some n) (b₀ :: suite) pos'] [] [] pos) (fun D σ H => tb (wAsT X.K c i ts D) D σ H) := by
  refine ⟨fun pins s σ H D I h => ?_⟩
  have ok := I.ok
  have hfr : X.A.frames = some (X.env :: X.outer) := by rw [ok.frames, hs]
  have hloc : Loc X.env.scope n := .inl hln
  refine wpAny_Try_except ?_
  refine wpAny_mono ((hb (wAsT X.K c i ts D) (X.pn ++ pins) (fun e s₁ => wpAny (model X.prog X.w) X.A (noteFrame e X.env) (fun _ s₂ => wpAny (model X.prog X.w) X.A (setFlight e none) (fun _ s₃ =>
    wpAny (model X.prog X.w) X.A (handleBy e X.env [.ExceptHandler (some (.Name x np)) (some n) (b₀ :: suite) pos']) (SP X pins D) X.xe s₃) X.xe s₂) X.xe s₁) (fun u s' xx => ?_) PassesOwn.looking).run [] s σ H D (I.toTry _) h) (fun f s1 hsp => ?_) (fun e s1 he => he)
  · -- the catch
    obtain ⟨a, B, sI, pins', σ', H', cls, d, rfl, J', nb, up, sky, na, os, ag, hb1, C, rfl, hyes⟩ := xx
    have J : Inv X pins σ' H' sI := J'.ofTry ok
    have sky' : Sky B (X.env :: X.outer) a (Zc (.ref C) d) X.env.locals s'.heap := by rw [← hs]; exact sky
    show wpAny (model X.prog X.w) X.A (noteFrame (.ref a) X.env) _ _ _
    refine Sky.land Zc.steady hfr hf sky' fun h3 fl3 up3 => ?_
    have J3 : Inv X pins σ' H' { s' with heap := h3 } := J.landed nb fl3.1 (up.trans up3) os ag
    obtain ⟨oe3, vs3, he3, hz3, hd3⟩ := fl3.there
    have notFr : ∀ {h : Heap} {o : Obj} {vs : Array Value}, h.FunFrames B (X.env :: X.outer) → h.get? a = some o → o.data = .fields vs → a ∉ frs (X.env :: X.outer) := fun {h o vs} ff e dd hm => by
      obtain ⟨_, o', e', hnf⟩ := ff.mem hm
      rw [e] at e'; cases e'
      exact hnf _ dd
    have nfr := notFr fl3.2.2.1 he3 hd3
    have nL : a ≠ X.env.locals := fun z => nfr (List.mem_filterMap.mpr ⟨X.env, List.mem_cons_self, by rw [hf, z]⟩)
    have nF : a ∉ X.fs := fun hm => by
      obtain ⟨e, he, q⟩ := List.mem_filterMap.mp hm
      exact nfr (List.mem_filterMap.mpr ⟨e, List.mem_cons_of_mem _ he, q⟩)
    have nI : sI.heap.get? a = none := by
      cases e : sI.heap.get? a with
      | none => rfl
      | some o =>
        have z := nb a o e (by rw [hs]; exact nfr)
        rw [fl3.2.1] at z
        cases z
    have n0 : X.s_0.heap.get? a = none := by
      cases e : X.s_0.heap.get? a with
      | none => rfl
      | some o =>
        obtain ⟨o', z⟩ := J.base.there a o e (by rw [hx]; exact fun z => nomatch z)
        rw [nI] at z
        cases z
    have S3 := J3.suite he3 hd3 na nL nF
    refine wpAny_handleBy_cons (codeAny_handlers_test ?_) (by intro q; cases q)
    have LT : PySem.W.Looks (model X.prog X.w) h3 (typeOf (.ref a)) (.ref C) := fun A Q E s k q => wpAny_typeOf_ref (k _ _ he3) (by rw [hz3.1]; exact q)
    have LM := PySem.W.exm_one (M := model X.prog X.w) (J3.kIn) LT hb1
    have test : ∀ {Q : Value → Shared → Prop} {E : Value → Shared → Prop}, Q c { s' with heap := h3 } → wpAny (model X.prog X.w) (X.A.mark (some (.ref a))) (eval (.Name x np) X.env) Q E { s' with heap := h3 } := fun {Q E} q => by
      obtain ⟨hg, hdbg, hm | ⟨hm, hv, hnn⟩⟩ := hc
      · exact ld_glob (X := X.suite a ((a, oe3) :: (X.pn ++ pins))) S3 hg hm q hdbg
      · exact ld_blt (X := X.suite a ((a, oe3) :: (X.pn ++ pins))) S3 hg hm hv q hnn hdbg
    refine test (LM.here ?_)
    refine codeAny_handlers_suite_as ?_
    refine HandSPX.lands_againZ fl3 fun h4 fl4 up4 => ?_
    have J4 : Inv X pins σ' H' { s' with heap := h4 } := J.landed nb fl4.1 ((up.trans up3).trans up4) os ag
    obtain ⟨oe4, vs4, he4, hz4, hd4⟩ := fl4.there
    have S4 := J4.suite he4 hd4 na nL nF
    refine store_ok (X := X.suite a ((a, oe4) :: (X.pn ++ pins))) (v := .ref a) S4 hN hi hloc rfl (fun s5 S5 => ?_) (.inr hln)
    refine wpAny_mono ((hsu a oe4 (.ref C) d (X.pn ++ pins) hz4 ⟨_, hd4⟩).run [] s5 _ H' _ S5 (hyes a na)) (fun f s6 hsp => ?_) (fun _ _ z => False.elim z)
    cases f with
    | next =>
      obtain ⟨σ6, H6, S6, q6⟩ := hsp
      have P6 : Inv X ((a, oe4) :: pins) σ6 H6 s6 := ⟨ok, S6.os, S6.bare, S6.base, S6.loc, S6.cell, S6.free, S6.freeC, fun p hp => S6.pin p (by
        have hp' : p ∈ (a, oe4) :: (X.pn ++ pins) := by
          rcases List.mem_append.mp hp with z | z
          · exact List.mem_cons_of_mem _ (List.mem_append_left _ z)
          · rcases List.mem_cons.mp z with z | z
            · rw [z]; exact List.mem_cons_self
            · exact List.mem_cons_of_mem _ (List.mem_append_right _ z)
        exact List.mem_append_left _ hp'), S6.hok, S6.len⟩
      refine gone_ok P6 hN hi hln fun s7 J7 => ?_
      obtain ⟨e7, na7, nL7, nF7, nc7⟩ := J7.pin (a, oe4) (List.mem_append_right _ List.mem_cons_self)
      have K7 : Inv X pins (σ6.set i none) H6 s7 := ⟨ok, J7.os, J7.bare, J7.base, J7.loc, J7.cell, J7.free, J7.freeC, fun p hp => J7.pin p (by
        rcases List.mem_append.mp hp with z | z
        · exact List.mem_append_left _ z
        · exact List.mem_append_right _ (List.mem_cons_of_mem _ z)), J7.hok, J7.len⟩
      refine ⟨_, _, adopt K7 hx na7 n0 nL (fun y cc e z => ?_) (fun p hp z => ?_) (exc_ok e7 hz4 hd4), q6⟩
      · obtain ⟨v, o, ho, hd⟩ := J7.cell y cc e
        rw [z, e7] at ho
        cases ho
        exact nc7 _ hd
      · have w := (J.pin p hp).1
        rw [z, nI] at w
        cases w
    | brk =>
      obtain ⟨σ6, H6, S6, q6⟩ := hsp
      exact q6.elim
    | cont =>
      obtain ⟨σ6, H6, S6, q6⟩ := hsp
      exact q6.elim
    | ret u =>
      obtain ⟨v6, σ6, H6, S6, r6, q6⟩ := hsp
      exact q6.elim
  · cases f with
    | next =>
      obtain ⟨σ', H', J', q⟩ := hsp
      exact wpAny_execs_nil ⟨σ', H', J'.ofTry ok, q⟩
    | brk =>
      obtain ⟨σ', H', J', q⟩ := hsp
      exact ⟨σ', H', J'.ofTry ok, q⟩
    | cont =>
      obtain ⟨σ', H', J', q⟩ := hsp
      exact ⟨σ', H', J'.ofTry ok, q⟩
    | ret u =>
      obtain ⟨v, σ', H', J', r, q⟩ := hsp
      exact ⟨v, σ', H', J'.ofTry ok, r, q⟩
end

/-! ### what is read of it -/
section
variable {X : Cx}
theorem caught_inst {pins : List (Addr × Obj)} {σ : L2.St} {H : Hp} {s : Shared} (I : Inv X pins σ H s) {a C : Addr} {v : V} (e : Caught H a C v) :
    ∃ (ox : Obj) (od : Obj) (mA : Str → Option Value) (dx : Addr), PySem.W.InstAt s.heap a ox C (some od) ∧ s.heap.Ns1 dx mA ∧ s.heap.get? dx = some od ∧ (∀ f, RelO (([("value", v)] : List (Str × V)).lookup f) (mA f)) := by
  obtain ⟨d, h1, h2⟩ := e
  obtain ⟨⟨oe, vs, ho, hz, dt⟩, _, _⟩ := (show ObjOk X.prog X.w H s.heap a (exc a C (some d)) from I.hok a _ h1)
  obtain ⟨mA, hn, hr⟩ := (show ObjOk X.prog X.w H s.heap d (.xd [("value", v)]) from I.hok d _ h2)
  obtain ⟨o, es, ep, hd, hz'⟩ := id hn
  refine ⟨oe, o, mA, d, ⟨ho, hz.1, ?_, ?_⟩, hn, hd, hr⟩
  · unfold PySem.W.notCls
    rw [dt]
  · rw [hz.2]
    exact hd
/-- e.value -/
theorem pe_valueC {e : Expr} {te : TE} {pos : Pos} (he : PE X e te) (hb : attributeBase e "value" X.env (eval e X.env) = eval e X.env := by rfl) :
    PE X (.Attribute e "value" pos) (fun σ H Q => te σ H fun x H1 => ∃ a C v, x = .ref a ∧ EC X.K C ∧ Caught H1 a C v ∧ Q v H1) := by
  constructor
  intro pins s σ H Q I h
  refine attr_of hb (thn (he.run pins s σ H _ I h) ?_)
  rintro u s1 ⟨x, H1, I1, rx, a, C, v, rfl, T, ea, q⟩
  cases rx
  obtain ⟨ox, od, mA, dx, J, hn, hd, hr⟩ := caught_inst I1 ea
  obtain ⟨od', hod, hl⟩ := lookIn_ns hn
  have eo : od' = od := Option.some.inj (hod.symm.trans hd)
  subst eo
  obtain ⟨u, hu, ru⟩ := RelO.some_of (v := v) (o := mA "value") (by have := hr "value"; simpa [List.lookup] using this)
  exact HandSPX.exc_get I1.kIn J T.ga T.gg T.ox.exC (PySem.W.findObj_own T.hd T.nv rfl (by rw [hl, hu])) (handed_of ru) ⟨v, H1, I1.tok _, ru, q⟩
/-- isinstance(e, C) of such an error, or of None -/
theorem call_isCaught (S : EK X.K) : CallR X (.builtin "isinstance") (fun xs H Q => ∃ (a C : Addr) (v c : V) (u : Value) (b : Bool), xs = [.ref a, c] ∧ ClsV c u ∧ EC X.K C ∧ Caught H a C v ∧ PySem.W.kitOne X.K (.ref C) u = some b ∧ Q (.bl b) H) := by
  intro pins s σ H xs us Q I r h
  obtain ⟨a, C, v, c, u, b, rfl, k, T, ea, e, q⟩ := h
  obtain ⟨u1, u2, rfl, r1, r2⟩ := vals2 r
  have e2 := k.eq r2
  subst e2
  cases r1
  obtain ⟨ox, od, mA, dx, J, hn, hd, hr⟩ := caught_inst I ea
  exact PySem.W.kia_one (PySem.W.kitx_exc (gt := none) T.cls T.ga T.gg T.ox.exC T.kl S.sp S.tk T.ob) I.kIn J e (fun z => nomatch z) fun tk => ⟨.bl b, H, I.tok tk, rfl, q⟩
end
end G

namespace G
open PySem PySem.Spec PyProof.Rows L2 LamX

/-! ### a lambda handed to a def that catches what it raises; the wish may look at the slots -/
section
variable {X : Cx} {pins : List (Addr × Obj)} {σ : L2.St} {H HZ : Hp} {s s1 : Shared}
/-- the lambda's own name and object -/
abbrev lamName (X : Cx) : Str := X.env.qual ++ "<lambda>"
abbrev lamObj (X : Cx) (params : Arguments) (body : Expr) (scope : Scope) (pm : Value) (c' : Addr) (ctv : Value) : Obj := PySem.W.kla_obj "<lambda>" (lamName X) params body scope (cloFrom X.env.cells scope.names []) pm c' ctv
theorem lam_runs {A : Around} {outer : List Env} {E : XK} {Q : VK} {f c' : Addr} {pm ctv : Value} {params : Arguments} {body : Expr} {scope : Scope} {k : Nat} {tb : TE}
    (I : Inv X pins σ H s) (L : LamS X.env.scope scope) (of : s1.heap.get? f = some (lamObj X params body scope pm c' ctv)) (un : Un (frs X.stack) [] H HZ s.heap s1.heap)
    (e0 : Env0 X.prog X.w X.K X.mg X.base A outer s1 HZ) (hr : Room (k + 1) A) (hc : HZ c' = some (CodeO c' (lamName X)))
    (nb : bindArgs (PySem.W.kla_fn "<lambda>" (lamName X) params body scope (cloFrom X.env.cells scope.names []) pm (.ref c') ctv) ⟨[], []⟩ = pure [])
    (bd : Room k (A.deeper (lamEnv X scope s1.heap.objs.size f c')) → PE (lamCx X A outer s1 HZ E scope f c') body tb) (ht : tb σ HZ Q) :
    codeAny (model X.prog X.w) A (.call (.ref f) ⟨[], []⟩) (CR (L2.CX X.prog X.w) outer X.prog X.w HZ s1 Q E) s1 := by
  have lim : s1.heap.NoLimit := e0.mod.nolimit.keeps fun b o e => (e0.bs b o e).1
  obtain ⟨⟨oc, vs, t, g1, g2, g3⟩, _, _⟩ := (show ObjOk X.prog X.w HZ s1.heap c' (CodeO c' (lamName X)) from e0.hok c' _ hc)
  apply PySem.W.kla_callFunE hr.depth of rfl L.co L.gen rfl ⟨c', oc, vs, t, rfl, g1, g2, g3⟩
  rw [nb]
  apply wpAny_pure
  apply wpAny_newFunctionEnv (fun y hy => (L.own y hy).2) (fun y hy => absurd hy (by simp)) _ L.kind
  intro h₁ hns hsb
  refine ⟨lim.fresh _ hsb, ?_⟩
  have kp : ∀ b o, s1.heap.get? b = some o → h₁.get? b = some o := by
    intro b o e
    exact hsb.extBut b o (Nat.ne_of_lt (Heap.lt_size e)) (Heap.get?_push_of_some _ e)
  have J := lam_start2 (f := f) (c' := c') (tk := s1.toks + ([] : List (Str × Value)).length) (E := E) I L e0 hr.hd un hns kp
  apply PySem.W.kla_codeExpr
  apply wpAny_mono ((bd (hr.deeper _)).run [] _ _ HZ Q J ht)
  · rintro v s' ⟨w', H', J', rv, q⟩
    exact ⟨w', H', J'.os, J'.bare, J'.base, J'.hok, rv, q⟩
  · exact fun _ _ z => z
/-- a(), in the def that got it -/
theorem pe_ask {CXg : CXT} {Eg : XK} {Ng : List Str} {qg : Str} {sg : Scope} {g f c' : Addr} {cdg pm ctv : Value} {params : Arguments} {body : Expr} {scope : Scope} {k i : Nat} {a : Str} {pn : List (Addr × Obj)} {xe : Value → Shared → Prop} {W : WX} {tb : XK → TE} {p1 p2 : Pos}
    (I : Inv X pins σ H s) (L : LamS X.env.scope scope) (hf : s.heap.get? f = some (lamObj X params body scope pm c' ctv)) (hfn : H f = none) (hfr : f ∉ frs X.stack)
    (nb : bindArgs (PySem.W.kla_fn "<lambda>" (lamName X) params body scope (cloFrom X.env.cells scope.names []) pm (.ref c') ctv) ⟨[], []⟩ = pure [])
    (tk : Takes ((cxOf CXg X.prog X.w X.K X.mg X.base Ng qg sg g cdg X.A X.stack s H Eg).tr pn xe) W) (hr : Room (k + 1) (X.A.deeper (envOfC qg sg s.heap.objs.size g cdg)))
    (bd : ∀ (E : XK) (A : Around) (outer : List Env) (s : Shared) (H : Hp), Room k (A.deeper (lamEnv X scope s.heap.objs.size f c')) → PE (lamCx X A outer s H E scope f c') body (tb E))
    (hN : Ng[i]? = some a) (hv : Vis sg a) (hd : (a == ("__debug__" : Str)) = false := by decide) (hcd : (a == ("__classdict__" : Str)) = false := by decide) :
    PE ((cxOf CXg X.prog X.w X.K X.mg X.base Ng qg sg g cdg X.A X.stack s H Eg).tr pn xe) (.Call (.Name a p1) [] [] p2)
      (fun σZ HZ Q => σZ[i]? = some (some (.ref f)) ∧ HZ c' = some (CodeO c' (lamName X)) ∧ tb (fun cls d H' => W cls d σZ H') σ HZ Q) := by
  constructor
  rintro pZ sZ σZ HZ Q IZ ⟨hs, hc, ht⟩
  apply wpAny_Call_Name_kw
  apply thn ((pe_var (pos := p1) (i := i) hN hv hd hcd).run pZ sZ σZ HZ (fun v H1 => v = .ref f ∧ H1 = HZ) IZ ⟨.ref f, hs, rfl, rfl⟩)
  rintro u s1 ⟨v, H1, I1, r1, rfl, rfl⟩
  obtain rfl : u = Value.ref f := r1
  have un : Un (frs X.stack) [] H H1 s.heap s1.heap := I1.base
  have of1 := un.keep f _ hf hfn hfr (fun z => nomatch (show f ∈ ([] : List Addr) from z))
  apply PySem.W.callWith_F0 ⟨_, _, _, _, of1⟩
  have rc := lam_runs (E := fun cls d H' => W cls d σZ H') (Q := Q) I L of1 un I1.env0 hr hc nb (fun h => bd _ _ _ _ _ h) ht
  apply wpAny_call
  apply codeAny_mono rc
  intro r s' hq
  match r, hq with
  | .error e, hq => exact passAt tk σZ pZ H1 s1 e s' I1 hq
  | .ok .next, hq => exact hq.elim
  | .ok .brk, hq => exact hq.elim
  | .ok .cont, hq => exact hq.elim
  | .ok (.ret w), hq => exact I1.after hq
/-- what a def makes of the lambda that it calls as a: TT, from the lambda's reading -/
def Asks (X : Cx) (Ng : List Str) (x : Str) (sg : Scope) (g : Addr) (cdg : Value) (bg : List Stmt) (a : Str) (q : Str) (TT : (XK → Hp → VK → Prop) → Hp → VK → Prop) : Prop :=
  ∀ (f c' : Addr) (s : Shared) (H : Hp) (Q : VK) (tl : XK → Hp → VK → Prop),
    (∀ (W : WX) (pn : List (Addr × Obj)) (xe : Value → Shared → Prop) (p1 p2 : Pos), Takes ((cxOf C8.CX0 X.prog X.w X.K X.mg X.base Ng x sg g cdg X.A X.stack s H C8.E0).tr pn xe) W →
      PE ((cxOf C8.CX0 X.prog X.w X.K X.mg X.base Ng x sg g cdg X.A X.stack s H C8.E0).tr pn xe) (.Call (.Name a p1) [] [] p2) (fun σZ HZ Q => σZ[0]? = some (some (.ref f)) ∧ HZ c' = some (CodeO c' q) ∧ tl (fun cls d H' => W cls d σZ H') HZ Q)) →
    H c' = some (CodeO c' q) → TT tl H Q →
    ∃ t, PSs (cxOf C8.CX0 X.prog X.w X.K X.mg X.base Ng x sg g cdg X.A X.stack s H C8.E0).nox bg t ∧ t { nx := fun _ H' => Q .non H', rt := Q } (L2.start Ng [.ref f]) H
/-- x(lambda: body) -/
theorem pe_asks {T : List (Addr × Str)} {TT : (XK → Hp → VK → Prop) → Hp → VK → Prop} {x a : Str} {g c P : Addr} {k : Nat} {pg : Arguments} {bg : List Stmt} {sg : Scope} {dV kV doc pm cdv ct oc : Value} {an od : Option Addr} {osl : Array (Option Value)} {Ng : List Str}
    {params : Arguments} {body : Expr} {scope : Scope} {t : XK → TE} {p lpos pos : Pos} (hg : Gl X x) (hm : X.mg x = some (.ref g)) (hk : PySem.W.keepIn X.K (.ref g) = true)
    (lk : X.K.lookup g = some ⟨oc, od, .func (PySem.W.fnOf x x pg bg sg dV kV doc pm an cdv ct), osl⟩) (hcg : PySem.W.codeIn X.K cdv x = true) (hb : L2.Binds X.K (PySem.W.fnOf x x pg bg sg dV kV doc pm an cdv ct) [a] []) (Sg : FnScope Ng [a] sg) (hNg : Ng[0]? = some a) (hva : Vis sg a)
    (hG : Asks X Ng x sg g cdv bg a (lamName X) TT)
    (TB : TabB X.base X.mg c P) (hcode : X.env.code = .ref c) (hmT : (P, lamName X) ∈ T) (hu : ∀ p ∈ T, p.1 = P → p.2 = lamName X) (hr : Room (k + 2) X.A) (L : LamS X.env.scope scope) (hdef : defaultsOf params X.env = ([], []))
    (nb : ∀ (q : Str) (cl : List (Str × Addr)) (pm cv ctv : Value), bindArgs (PySem.W.kla_fn "<lambda>" q params body scope cl pm cv ctv) ⟨[], []⟩ = pure [])
    (bd : ∀ (A : Around) (outer : List Env) (s : Shared) (H : Hp) (E : XK) (f c' : Addr), Room k (A.deeper (lamEnv X scope s.heap.objs.size f c')) → PE (lamCx X A outer s H E scope f c') body (t E))
    (hdb : (x == ("__debug__" : Str)) = false := by decide) (hd : (a == ("__debug__" : Str)) = false := by decide) (hcd : (a == ("__classdict__" : Str)) = false := by decide) :
    PE X (.Call (.Name x p) [.Lambda params body scope lpos] [] pos) (tLam T TT t) := by
  constructor
  rintro pins s σ H Q I ⟨hT, h⟩
  apply wpAny_Call_Name_kw
  apply ld_glob I hg hm _ hdb
  refine PySem.W.callWith_K (h₀ := X.base) I.ok.mod.kin hk ?_ (by rfl) (by rfl)
  show wpAny _ _ (spliced ((false, eval (.Lambda params body scope lpos) X.env) :: backTo pos (starEach [] X.env))) _ _ s
  apply Calls.spliced_cons
  apply lam_make2 I TB hcode hmT hu hT hdef (L.has I.ok)
  intro f c' pm' ctv H1 s' I1 eN T1 hf hfn hfr hco
  refine Calls.spliced_nil ⟨I1.kIn, ?_⟩
  have rc : codeAny (model X.prog X.w) X.A (.call (.ref g) ⟨[.ref f], []⟩) (CR C8.CX0 X.stack X.prog X.w H1 s' Q C8.E0) s' := by
    refine run_ofS (N := Ng) (ps := [a]) (us := [.ref f]) (vs := [.ref f]) lk hcg Sg hr I1.env0 (hb s' [.ref f] I1.kIn rfl) (.cons rfl .nil) rfl fun hr' => ?_
    obtain ⟨t', ht', hq'⟩ := hG f c' s' H1 Q (fun E H' Q' => t E σ H' Q') (fun W pn xe p1 p2 tk => pe_ask (i := 0) (tb := t) I1 L hf hfn hfr (nb _ _ _ _ _) tk hr' (fun E A outer s H hr2 => bd A outer s H E f c' hr2) hNg hva hd hcd) hco (h H1 eN T1)
    exact ⟨t', ht'.nox, hq'⟩
  apply wpAny_call
  apply codeAny_mono rc
  intro r s2 hq
  match r, hq with
  | .error e, hq => exact (show False from hq).elim
  | .ok .next, hq => exact hq.elim
  | .ok .brk, hq => exact hq.elim
  | .ok .cont, hq => exact hq.elim
  | .ok (.ret w), hq => exact I1.after hq
end
end G

namespace G

/-! ### fractions in least terms -/
/-- what both are divided by -/
def byOf (n u : Int) : Int := if u < 0 then -((Nat.gcd n.natAbs u.natAbs : Nat) : Int) else ((Nat.gcd n.natAbs u.natAbs : Nat) : Int)
def rNum (n u : Int) : Int := n.fdiv (byOf n u)
def rUnd (n u : Int) : Int := u.fdiv (byOf n u)
structure Red (n u : Int) : Prop where
  pos : 0 < u
  one : Nat.gcd n.natAbs u.natAbs = 1
theorem g_pos {n u : Int} (h : u ≠ 0) : 0 < Nat.gcd n.natAbs u.natAbs := Nat.gcd_pos_of_pos_right _ (by omega)
theorem byOf_ne {n u : Int} (h : u ≠ 0) : byOf n u ≠ 0 := by
  have := g_pos (n := n) h
  unfold byOf
  split <;> omega
theorem byOf_abs {n u : Int} : (byOf n u).natAbs = Nat.gcd n.natAbs u.natAbs := by
  unfold byOf
  split <;> omega
theorem byOf_le {n u : Int} (h : u ≠ 0) : (byOf n u).natAbs ≤ u.natAbs := by
  rw [byOf_abs]
  exact Nat.le_of_dvd (by omega) (Nat.gcd_dvd_right _ _)
theorem byOf_num {n u : Int} : byOf n u ∣ n := by
  rw [← Int.natAbs_dvd_natAbs, byOf_abs]
  exact Nat.gcd_dvd_left _ _
theorem byOf_und {n u : Int} : byOf n u ∣ u := by
  rw [← Int.natAbs_dvd_natAbs, byOf_abs]
  exact Nat.gcd_dvd_right _ _
theorem fd_of {c n : Int} (hc : c ≠ 0) (h : c ∣ n) : c * n.fdiv c = n := by
  rw [Int.fdiv_eq_ediv_of_dvd h]
  exact Int.mul_ediv_cancel' h
theorem num_mul {n u : Int} (h : u ≠ 0) : byOf n u * rNum n u = n := fd_of (byOf_ne h) byOf_num
theorem und_mul {n u : Int} (h : u ≠ 0) : byOf n u * rUnd n u = u := fd_of (byOf_ne h) byOf_und
theorem red_of {n u : Int} (h : u ≠ 0) : Red (rNum n u) (rUnd n u) := by
  have h1 := num_mul (n := n) h
  have h2 := und_mul (n := n) h
  have hg := g_pos (n := n) h
  constructor
  · by_cases hu : u < 0
    · have e : byOf n u < 0 := by
        unfold byOf
        rw [if_pos hu]
        omega
      rcases Int.lt_trichotomy (rUnd n u) 0 with z | z | z
      · have := Int.mul_pos_of_neg_of_neg e z
        omega
      · rw [z, Int.mul_zero] at h2
        omega
      · exact z
    · have e : 0 < byOf n u := by
        unfold byOf
        rw [if_neg hu]
        omega
      rcases Int.lt_trichotomy (rUnd n u) 0 with z | z | z
      · have := Int.mul_neg_of_pos_of_neg e z
        omega
      · rw [z, Int.mul_zero] at h2
        omega
      · exact z
  · have e1 : n.natAbs = Nat.gcd n.natAbs u.natAbs * (rNum n u).natAbs := by
      have := congrArg Int.natAbs h1
      rw [Int.natAbs_mul, byOf_abs] at this
      exact this.symm
    have e2 : u.natAbs = Nat.gcd n.natAbs u.natAbs * (rUnd n u).natAbs := by
      have := congrArg Int.natAbs h2
      rw [Int.natAbs_mul, byOf_abs] at this
      exact this.symm
    have e3 : Nat.gcd n.natAbs u.natAbs = Nat.gcd n.natAbs u.natAbs * Nat.gcd (rNum n u).natAbs (rUnd n u).natAbs := by
      rw [← Nat.gcd_mul_left, ← e1, ← e2]
    exact Nat.eq_of_mul_eq_mul_left hg (by omega)
theorem Red.same {n u : Int} (r : Red n u) : rNum n u = n ∧ rUnd n u = u := by
  have e : byOf n u = 1 := by
    unfold byOf
    rw [r.one, if_neg (by have := r.pos; omega)]
    rfl
  unfold rNum rUnd
  rw [e]
  exact ⟨Int.fdiv_one _, Int.fdiv_one _⟩
theorem Red.neg {n u : Int} (r : Red n u) : Red (-n) u := ⟨r.pos, by rw [Int.natAbs_neg]; exact r.one⟩
theorem Red.abs {n u : Int} (r : Red n u) : Red (if n < 0 then -n else n) u := by
  split
  · exact r.neg
  · exact r
theorem red_int (n : Int) : Red n 1 := ⟨by decide, by rw [show (1 : Int).natAbs = 1 from rfl, Nat.gcd_one_right]⟩
theorem num_le {n u : Int} (h : u ≠ 0) : (rNum n u).natAbs ≤ n.natAbs := by
  have h1 := num_mul (n := n) h
  have hg := g_pos (n := n) h
  have := congrArg Int.natAbs h1
  rw [Int.natAbs_mul, byOf_abs] at this
  rw [← this]
  exact Nat.le_mul_of_pos_left _ hg
theorem und_le {n u : Int} (h : u ≠ 0) : (rUnd n u).natAbs ≤ u.natAbs := by
  have h1 := und_mul (n := n) h
  have hg := g_pos (n := n) h
  have := congrArg Int.natAbs h1
  rw [Int.natAbs_mul, byOf_abs] at this
  rw [← this]
  exact Nat.le_mul_of_pos_left _ hg
/-- one step of the law's own greatest common divisor -/
theorem gcd_step {a b : Int} (ha : 0 ≤ a) (hb : 0 < b) : Nat.gcd b.natAbs (a.fmod b).natAbs = Nat.gcd a.natAbs b.natAbs := by
  rw [Int.fmod_eq_emod_of_nonneg a (by omega)]
  obtain ⟨m, rfl⟩ := Int.eq_ofNat_of_zero_le ha
  obtain ⟨k, rfl⟩ := Int.eq_ofNat_of_zero_le (Int.le_of_lt hb)
  show Nat.gcd k ((m : Int) % (k : Int)).natAbs = Nat.gcd m k
  rw [show ((m : Int) % (k : Int)).natAbs = m % k by omega, Nat.gcd_comm k, ← Nat.gcd_rec, Nat.gcd_comm]
end G

namespace G
open PySem PySem.Spec PyProof.Rows L2 PySem.Calls

/-! ### abs and repr of instances; repr of longer data -/
section
variable {prog : Program} {w : World} {A : Around} {E : Value → Shared → Prop} {s : Shared} {K : PySem.W.Frag} {x C f : Addr} {ox : Obj} {od : Option Obj}
theorem abs_K {Q : Value → Shared → Prop} (X : K.In s.heap) (I : PySem.W.InstAt s.heap x ox C od) (hs : PySem.W.findIn K (.ref C) "__abs__" = some (some (.ref f))) (hf : PySem.W.isFn K (.ref f) = true)
    (h : wpAny (model prog w) A.in1 (call (.ref f) [.ref x]) Q E s) : wpAny (model prog w) A (call (.builtin "abs") [.ref x]) Q E s := by
  apply call_function_entry kind_abs plain_abs entry_abs (args_abs _)
  unfold Builtin.«abs»
  refine wpAny_bind (m := oneArg "abs" _) (wpAny_pure ?_)
  refine wpAny_bind (m := callSpecial? (.ref x) (Str.ofString "__abs__")) (PySem.W.special_fn X I hs (beq_iff_eq.mp hf) (wpAny_mono h (fun v s' z => ?_) fun _ _ y => y))
  exact wpAny_pure ⟨_, rfl, z⟩
end
section
variable {X : Cx} {CX : CXT} {n : Nat} {C f : Addr} {sp : Sp} {E : XK}
/-- abs(x), repr(x) of an instance -/
def rOneK (C : Addr) (sp : Sp) (E : XK) : List V → Hp → VK → Prop := fun xs H Q => ∃ a dx fs, xs = [.ref a] ∧ H a = some (.ins C dx fs) ∧ sp [.ref a] H Q E
theorem call_absK (hs : PySem.W.findIn X.K (.ref C) "__abs__" = some (some (.ref f))) (hf : PySem.W.isFn X.K (.ref f) = true) (F : FnR X.prog X.w X.K X.mg X.base CX n f sp) (hr : Room (n + 1) X.A) (hx : Passes CX X E) :
    CallR X (.builtin "abs") (rOneK C sp E) := by
  intro pins s σ H xs us Q I r h
  obtain ⟨a, dx, fs, rfl, ha, q⟩ := h
  obtain ⟨u, rfl, ru⟩ := vals1 r
  cases (show u = Value.ref a from ru)
  obtain ⟨od, mA, J, _⟩ := ins_inst I ha
  have hr1 : Room n X.A.in1 := Room.in1 hr
  exact abs_K I.kIn J hs hf (wpAny_call (SlX.run_at (us := [.ref a]) (ws := [.ref a]) F hr1 I.env0.in1 hx I (.cons rfl .nil) q))
theorem call_reprK (hs : PySem.W.findIn X.K (.ref C) "__repr__" = some (some (.ref f))) (hf : PySem.W.isFn X.K (.ref f) = true) (F : FnR X.prog X.w X.K X.mg X.base CX n f sp) (hr : Room (n + 1) X.A) (hx : Passes CX X E) :
    CallR X (.builtin "repr") (fun xs H Q => ∃ a dx fs, xs = [.ref a] ∧ H a = some (.ins C dx fs) ∧ sp [.ref a] H (fun v H' => ∃ t, v = .str t ∧ Q v H') E) := by
  intro pins s σ H xs us Q I r h
  obtain ⟨a, dx, fs, rfl, ha, q⟩ := h
  obtain ⟨u, rfl, ru⟩ := vals1 r
  cases (show u = Value.ref a from ru)
  obtain ⟨od, mA, J, _⟩ := ins_inst I ha
  obtain ⟨m, hF⟩ := I.fr
  have hr1 : Room n X.A.in1 := Room.in1 hr
  refine PySem.W.repr_K hr1.units0 hF I.ok.mod.kin J hs hf (wpAny_mono (wpAny_call (SlX.run_at (us := [.ref a]) (ws := [.ref a]) F hr1 I.env0.in1 hx I (.cons rfl .nil) q)) (fun v s' z => ?_) fun _ _ y => y)
  obtain ⟨z, H', I', rz, t, rfl, q'⟩ := z
  obtain ⟨tk, e⟩ := (show ∃ tk, v = Value.str t tk from rz)
  cases e
  exact ⟨.str t, H', I', ⟨tk, rfl⟩, q'⟩
/-- repr of data of any leaves, its length told -/
theorem call_reprL (hq : Quiet X.A) (hu : X.A.units + 64 < cLine) : CallR X (.builtin "repr") (fun xs H Q => ∃ v d, xs = [v] ∧ Da H v d ∧ d.showable = true ∧ d.depth ≤ 20 ∧ d.shown.length ≤ sizeLine ∧ Q (.str d.shown) H) := by
  intro pins s σ H xs us Q I r h
  obtain ⟨v, d, rfl, hd, hz, hk, fits, q⟩ := h
  obtain ⟨u, rfl, ru⟩ := vals1 r
  have tail : ∀ (A : Addr), u = .ref A → wpAny (model X.prog X.w) X.A (call (.builtin "repr") [u]) (EP X pins σ Q) X.xe s := by
    rintro a rfl
    obtain ⟨as, hr, hns⟩ := Da.reads I hd ru
    refine repr_of_reads' (h₀ := s.heap) hr hz (fun _ => hns) hq (by omega) (fun _ _ z => z) (fun h' t tk hk => ?_) fits
    exact ⟨.str d.shown, H, I.kept hk, ⟨_, rfl⟩, q⟩
  cases hd with
  | non => cases ru; exact P.repr_of_none ⟨.str _, H, I.tok _, ⟨_, rfl⟩, q⟩
  | bl b =>
    cases ru
    refine P.repr_of_bool ?_
    exact ⟨.str _, H, I.tok _, ⟨_, rfl⟩, q⟩
  | int i =>
    obtain ⟨t, rfl⟩ := ru
    have hz : i.natAbs.log2 < 1920 := by simpa [PyData.showable] using hz
    exact P.repr_of_int hz ⟨.str _, H, I.tok _, ⟨_, rfl⟩, q⟩
  | str x =>
    obtain ⟨t, rfl⟩ := ru
    exact P.repr_of_str ⟨.str _, H, I.tok _, ⟨_, rfl⟩, q⟩ fits
  | lst e n t => cases ru; exact tail _ rfl
  | tup e t => cases ru; exact tail _ rfl
  | dct e t => cases ru; exact tail _ rfl
end
end G

namespace G
open PySem PySem.Spec PyProof.Rows L2 LamX

/-! ### the law's own call, where defs of the text make lambdas; entered while nothing shows itself -/
/-- an empty table of code objects -/
abbrev bareTab : Obj := { cls := .none, data := .fields #[] }
/-- the abstract heap at the entry: the script, if the text does not know it, and the tables -/
def atEntry (K : PySem.W.Frag) (a : Addr) (vs : List Value) (ns : List Int) (ts : List Addr) : Hp := fun b =>
  if b ∈ ts then some (.tbl #[]) else if b = a ∧ K.lookup a = none then some (.frz { cls := .type "list", data := .seq vs.toArray } (.lst (ns.map V.int))) else none
section
variable {K : PySem.W.Frag} {a b : Addr} {vs : List Value} {ns : List Int} {ts : List Addr}
theorem ae_tab (h : b ∈ ts) : atEntry K a vs ns ts b = some (.tbl #[]) := if_pos h
theorem ae_scr (h : a ∉ ts) (k : K.lookup a = none) : atEntry K a vs ns ts a = some (.frz { cls := .type "list", data := .seq vs.toArray } (.lst (ns.map V.int))) := (if_neg h).trans (if_pos ⟨rfl, k⟩)
theorem ae_off (h : b ∉ ts) (n : ¬ (b = a ∧ K.lookup a = none)) : atEntry K a vs ns ts b = none := (if_neg h).trans (if_neg n)
theorem ae_or : (b ∈ ts ∧ atEntry K a vs ns ts b = some (.tbl #[])) ∨ (b ∉ ts ∧ b = a ∧ K.lookup a = none ∧ atEntry K a vs ns ts b = some (.frz { cls := .type "list", data := .seq vs.toArray } (.lst (ns.map V.int)))) ∨ (b ∉ ts ∧ atEntry K a vs ns ts b = none) := by
  by_cases h1 : b ∈ ts
  · exact .inl ⟨h1, ae_tab h1⟩
  · by_cases h2 : b = a ∧ K.lookup a = none
    · exact .inr (.inl ⟨h1, h2.1, h2.2, (if_neg h1).trans (if_pos h2)⟩)
    · exact .inr (.inr ⟨h1, ae_off h1 h2⟩)
end
theorem lawCallT {P : Program} {w : World} {K : PySem.W.Frag} {mg mb : Str → Option Value} {k : Nat} {fa a : Addr} {cs : List (Addr × Addr)} {fd : FuncData} {x : Str} {sp : Sp} {s₁ : Shared} {vs : List Value} {ns : List Int}
    (KX : K.In s₁.heap) (glob : s₁.heap.Ns mainGlobals mg) (bltn : s₁.heap.Ns builtinsNs mb) (boot : ∀ x : Str, x ≠ "__name__" → mb x = bootBuiltins x) (lim : s₁.heap.NoLimit) (gens : s₁.gens = #[])
    (mods : ∃ (bm : Addr) (ob : Obj), mg "__builtins__" = some (.ref bm) ∧ bm ≠ builtinsNs ∧ s₁.heap.get? bm = some ob ∧ ob.cls = .type "module" ∧ ob.dict = some builtinsNs ∧ ob.data = .plain)
    (bare : ∀ p ∈ cs, s₁.heap.get? p.2 = some bareTab) (noK : ∀ p ∈ cs, K.lookup p.2 = none) (code : ∀ p ∈ cs, PySem.W.CodeHd s₁.heap p.1 p.2)
    (obj : s₁.heap.get? a = some { cls := .type "list", data := .seq vs.toArray }) (nums : IntsAre vs ns) (short : ns.length ≤ sizeLine) (room : Room k callerA)
    (F : ∀ base : Heap, K.In base → base.Ns mainGlobals mg → (∀ p ∈ cs, TabB base mg p.1 p.2) → Fn P w K mg base CX0 k fa fd [x] sp) (bind : ∀ (s : Shared) (u : Value), BindsTo s fd ⟨[u], []⟩ [(x, u)])
    (told : ∀ H : Hp, (∀ p ∈ cs, H p.2 = some (.tbl #[])) → SqL K H a (ns.map V.int) → sp [.ref a] H (fun v _ => v = .bl true) fun _ _ _ => False) :
    codeAny (model P w) callerA (.call (.ref fa) ⟨[.ref a], []⟩) (fun r s' => r = .ok (.ret (.bool true)) ∧ OldK s₁.heap s'.heap ∧ s'.os = s₁.os ∧ AllBare s'.gens) s₁ := by
  have rv := vals_ints nums
  have lenV := nums.length
  let ts : List Addr := cs.map (·.2)
  let H : Hp := atEntry K a vs ns ts
  have inT : ∀ p ∈ cs, p.2 ∈ ts := fun p hp => List.mem_map.mpr ⟨p, hp, rfl⟩
  have tabT : ∀ b ∈ ts, s₁.heap.get? b = some bareTab := fun b hb => by
    obtain ⟨p, hp, rfl⟩ := List.mem_map.mp hb
    exact bare p hp
  have aT : a ∉ ts := fun z => by
    have q := (tabT a z).symm.trans obj
    cases q
  have offK : ∀ {b : Addr} {o : Obj}, K.lookup b = some o → H b = none := fun {b o} e => by
    rcases ae_or (K := K) (a := a) (b := b) (vs := vs) (ns := ns) (ts := ts) with ⟨h, _⟩ | ⟨_, rfl, n, _⟩ | ⟨_, z⟩
    · obtain ⟨p, hp, rfl⟩ := List.mem_map.mp h
      rw [noK p hp] at e
      cases e
    · rw [n] at e
      cases e
    · exact z
  -- what is neither a list nor an empty table is not hidden
  have off : ∀ {b : Addr} {o : Obj}, s₁.heap.get? b = some o → (∀ its n, o.data ≠ .seq its n) → o.data ≠ .fields #[] → H b = none := fun {b o} e h1 h2 => by
    rcases ae_or (K := K) (a := a) (b := b) (vs := vs) (ns := ns) (ts := ts) with ⟨h, _⟩ | ⟨_, rfl, _, _⟩ | ⟨_, z⟩
    · obtain rfl := Option.some.inj (e.symm.trans (tabT b h))
      exact absurd rfl h2
    · obtain rfl := Option.some.inj (e.symm.trans obj)
      exact absurd rfl (h1 _ _)
    · exact z
  have offD : ∀ {b : Addr} {o : Obj} {es : Array DictEntry} {ep : Nat}, s₁.heap.get? b = some o → o.data = .dict es ep → H b = none := fun e d => off e (fun _ _ z => by rw [d] at z; cases z) fun z => by rw [d] at z; cases z
  have hok : HOk P w H s₁.heap := fun b u z => by
    rcases ae_or (K := K) (a := a) (b := b) (vs := vs) (ns := ns) (ts := ts) with ⟨h, e⟩ | ⟨_, rfl, _, e⟩ | ⟨_, e⟩
    · obtain rfl := Option.some.inj (e.symm.trans z)
      exact tabT b h
    · obtain rfl := Option.some.inj (e.symm.trans z)
      exact ⟨obj, by rw [List.length_map]; exact short, vs, _, rv, obj⟩
    · exact absurd (e.symm.trans z) (by simp)
  have seq : SqL K H a (ns.map V.int) := by
    cases hk : K.lookup a with
    | none => exact .inl (.inr ⟨_, ae_scr aT hk⟩)
    | some o =>
      obtain rfl := Option.some.inj ((KX a o hk).symm.trans obj)
      exact .inr ⟨_, vs.toArray, _, hk, rfl, rfl, rfl, by rw [List.size_toArray, lenV]; exact short, by simpa using rv⟩
  have ns0 : ∀ {b : Addr} {m : Str → Option Value}, s₁.heap.Ns b m → (hidT s₁.heap H).Ns b m := by
    rintro b m ⟨o, es, ep, e, d, r⟩
    exact ⟨o, es, ep, hidT_get e (offD e d), d, r⟩
  have in0 : K.In (hidT s₁.heap H) := fun b o e => hidT_get (KX b o e) (offK e)
  have M : Mod K mg (hidT s₁.heap H) := by
    obtain ⟨mc, l1, l2⟩ := lim
    exact ⟨in0, ns0 glob, ⟨mb, ns0 bltn, boot⟩, ⟨mc, ns0 l1, l2⟩⟩
  obtain ⟨og, eg, pg, gg, dg, _⟩ := id glob
  have TB : ∀ p ∈ cs, TabB (hidT s₁.heap H) mg p.1 p.2 := fun p hp => by
    have hp0 := bare p hp
    refine ⟨?cd, ?bm, fun z => ?_⟩
    case cd =>
      obtain ⟨o, us, f1, f2, f3, f4, f5, f6, f7, e, c1, c2, c3, rest⟩ := code p hp
      refine ⟨o, us, f1, f2, f3, f4, f5, f6, f7, hidT_get e (off e (fun _ _ z => ?_) fun z => ?_), c1, c2, c3, rest⟩
      · rw [c2] at z
        cases z
      · rw [c2] at z
        obtain rfl := Data.fields.inj z
        simp at c3
    case bm =>
      obtain ⟨bm, ob, m1, m2, m3, m4, m5, m6⟩ := mods
      refine ⟨bm, ob, m1, m2, fun z => ?_, fun z => ?_, hidT_get m3 (off m3 (fun _ _ z => by rw [m6] at z; cases z) fun z => by rw [m6] at z; cases z), m4, m5, m6⟩
      · rw [z, gg] at m3
        obtain rfl := Option.some.inj m3
        rw [dg] at m6
        cases m6
      · rw [z, hp0] at m3
        obtain rfl := Option.some.inj m3
        cases m6
    · rw [z, hp0] at gg
      obtain rfl := Option.some.inj gg
      cases dg
  have nof : ∀ b : Addr, ¬ b ∈ frs ([] : List Env) := fun b z => nomatch (show b ∈ ([] : List Addr) from z)
  have e0 : Env0 P w K mg (hidT s₁.heap H) callerA [] s₁ H := ⟨rfl, M, fun b o e => of_hidT e, Nat.le_of_eq (hidT_size _ _), trivial, fun b hb => absurd hb (nof b), hok, .of_eq gens⟩
  refine codeAny_mono ((F _ in0 (ns0 glob) TB).run callerA [] s₁ H ⟨[.ref a], []⟩ [.ref a] [.ref a] _ _ rfl room e0 (bind s₁ (.ref a)) (.cons rfl .nil) (told H (fun p hp => ae_tab (inT p hp)) seq)) ?_
  intro r s' h
  match r, h with
  | .error e, h => exact h.elim
  | .ok .next, h => exact h.elim
  | .ok .brk, h => exact h.elim
  | .ok .cont, h => exact h.elim
  | .ok (.ret u), h =>
    obtain ⟨v, H', os, allb, un, hok', ru, rfl⟩ := h
    obtain rfl : u = Value.bool true := ru
    -- an object that is no table is as it was
    have kept : ∀ b o, b ∉ ts → s₁.heap.get? b = some o → s'.heap.get? b = some o := fun b o nb e => by
      rcases ae_or (K := K) (a := a) (b := b) (vs := vs) (ns := ns) (ts := ts) with ⟨h, _⟩ | ⟨_, rfl, _, z⟩ | ⟨_, z⟩
      · exact absurd h nb
      · have s1 := (hok b _ z).1
        have s2 := (hok' b _ (un.frzs b _ _ z)).1
        exact s2.trans (s1.symm.trans e)
      · exact un.keep b o e z (nof b) (fun z => nomatch z)
    have more : ∀ b ∈ ts, ∃ ext : Array Value, s'.heap.get? b = some { cls := .none, data := .fields ext } := fun b hb => by
      obtain ⟨ext, z⟩ := un.tbls b #[] (ae_tab hb)
      exact ⟨_, hok' b _ z⟩
    refine ⟨rfl, ⟨fun b o e => ?_, fun b o e => ?_⟩, os, allb⟩
    · by_cases hb : b ∈ ts
      · obtain ⟨p, hp, rfl⟩ := List.mem_map.mp hb
        obtain ⟨ext, z⟩ := more _ hb
        obtain rfl := Option.some.inj ((bare p hp).symm.trans e)
        refine .inr (.inl ⟨((code p hp).tab (bare p hp)).isCodeTable, rfl, #[], ext, rfl, ?_⟩)
        rw [Array.empty_append]
        exact z
      · exact .inl (kept b o hb e)
    · by_cases hb : b ∈ ts
      · obtain ⟨ext, z⟩ := more b hb
        exact ⟨_, z⟩
      · exact ⟨o, kept b o hb e⟩
/-- what is to be shown of the law at the head's heap -/
def LawT (P : Program) (w : World) (K : PySem.W.Frag) (k n : Nat) (x : Str) (mg : Str → Option Value) (fa : Addr) (h : Heap) : Prop :=
  ∃ (fd : FuncData) (cs : List (Addr × Addr)) (sp : Sp), (∀ p ∈ cs, h.get? p.2 = some bareTab ∧ K.lookup p.2 = none ∧ PySem.W.CodeHd h p.1 p.2) ∧ (∀ (s : Shared) (u : Value), BindsTo s fd ⟨[u], []⟩ [(x, u)]) ∧
    (∀ (H : Hp) (a : Addr) (ns : List Int), ns.length ≤ n → (∀ p ∈ cs, H p.2 = some (.tbl #[])) → SqL K H a (ns.map V.int) → sp [.ref a] H (fun v _ => v = .bl true) fun _ _ _ => False) ∧
    ∀ base : Heap, K.In base → base.Ns mainGlobals mg → (∀ p ∈ cs, TabB base mg p.1 p.2) → Fn P w K mg base CX0 k fa fd [x] sp
/-- the tables of a text's defs are empty at the law's entry -/
def Bare (mg : Str → Option Value) (h : Heap) (nm : Str) : Prop := ∃ f o fd c T, mg nm = some (.ref f) ∧ h.get? f = some o ∧ o.data = .func fd ∧ fd.code = .ref c ∧ PySem.W.CodeHd h c T ∧ h.get? T = some bareTab
theorem walkOfT {l : PySem.W.OpenLaw} {n k : Nat} {q : Program} {loose : List Str} {XP : (Str → Option Value) → Heap → Prop} {YP : World → Heap → Prop} {d : DefRec} {K : Params → PySem.W.Frag} {x : Str} {names : List Str}
    (hn : l.most = some n) (hn2 : n ≤ sizeLine) (hdf : d.params.defaults = []) (hr : Room k callerA) (hrec : (names.all fun nm => (recsOf q).any fun e => e.name == nm) = true) (hY : ∀ (w : World) (h : Heap), YP w h → (K w.params).In h)
    (F : ∀ (w : World) (mg : Str → Option Value) (fa : Addr) (h : Heap), (K w.params).In h → h.Ns mainGlobals mg → mg d.name = some (.ref fa) → (∀ nm ∈ names, Bare mg h nm) → LawT l.prog w (K w.params) k n x mg fa h) :
    PySem.W.WalkO q loose XP YP l.row.toRowW d [] (fun f vs => PySem.call f vs) := by
  apply Att.attach_call hn hdf
  intro w s₀ s₁ mg mb fa o pm cd doc a vs ns G Y ho hd hcd hmg hobj hints hlen hg
  have KX := hY w _ Y
  have tabs : ∀ nm ∈ names, Bare mg s₁.heap nm := fun nm hnm => by
    obtain ⟨r, hm, e⟩ := List.any_eq_true.mp (List.all_eq_true.mp hrec nm hnm)
    obtain ⟨f, o', fd', c, T, t1, t2, t3, t4, t5, t6⟩ := G.T.tab r hm
    rw [beq_iff_eq.mp e] at t1
    exact ⟨f, o', fd', c, T, t1, t2, t3, t4, PySem.W.CodeHd.of t5 t6, t6.2⟩
  obtain ⟨fd, cs, sp, facts, hb, told, hF⟩ := F w mg fa _ KX G.T.g hmg tabs
  exact lawCallT KX G.T.g G.T.b G.T.builtins G.T.nolimit hg G.T.bmain (fun p hp => (facts p hp).1) (fun p hp => (facts p hp).2.1) (fun p hp => (facts p hp).2.2) hobj hints (Nat.le_trans hlen hn2) hr hF hb fun H hH hS => told H a ns hlen hH hS
end G

namespace G
open PySem PySem.Spec PyProof.Rows L2 ClX

/-! ### a static method, called through its class -/
structure SMet (K : PySem.W.Frag) (C : Addr) (m : Str) (g : Addr) : Prop where
  rd : ∃ mc p rest, CRead K C mc ∧ PySem.W.findCls K (.ref C) mc m = some (.get (.builtin "staticmethod.__get__") (.ref p) .none (.ref C)) ∧ PySem.W.recIn K p "staticmethod" = some (.ref g :: rest)
  kp : PySem.W.keepIn K (.ref g) = true
/-- C.m(e, ..) -/
def tSMeth (C : Addr) (sp : Sp) (E : XK) (ta : TE) (t : TA) : TE := fun σ H Q => ta σ H fun x H1 => x = .ref C ∧ t σ H1 fun vs H2 => sp vs H2 Q E
section
variable {X : Cx} {CX : CXT} {k : Nat} {C g : Addr} {sp : Sp} {E : XK} {o e : Expr} {es : List Expr} {m : Str} {pos apos : Pos} {ta : TE} {t : TA} {pl : Sem Bool}
theorem pe_smeth (he : PE X o ta) (c : SMet X.K C m g) (F : FnR X.prog X.w X.K X.mg X.base CX k g sp) (hr : Room k X.A) (hx : Passes CX X E) (ha : PA X (e :: es) t)
    (hst : starEach (e :: es) X.env = (false, eval e X.env) :: starEach es X.env := by rfl) (hpl : (backTo pos (starEach es X.env)).any (·.1) = false := by rfl)
    (ht : eval (.Call (.Attribute o m apos) (e :: es) [] pos) X.env = (do
      let ov ← eval o X.env
      standAt apos.atName
      let (f, first) ← holding [ov] (getMethod ov m pl)
      callWith pos f first (backTo pos (starEach (e :: es) X.env)) (backToKw pos (keywordEach [] X.env))) := by rfl) :
    PE X (.Call (.Attribute o m apos) (e :: es) [] pos) (tSMeth C sp E ta t) := by
  constructor
  intro pins s σ H Q I h
  apply PySem.W.methodCall_KW (pl := pl) _ ht
  apply thn (he.run pins s σ H _ I h)
  rintro u s1 ⟨x, H1, I1, rx, rfl, q⟩
  cases (show u = Value.ref C from rx)
  obtain ⟨mc, p, rest, r, e1, e2⟩ := c.rd
  apply PySem.W.method_cls I1.kIn r.ga
  apply PySem.W.cls_bind I1.kIn r.rd e1
  apply wpAny_call
  apply PySem.W.sm_get (s := { s1 with toks := s1.toks + 1 }) I1.kIn e2
  apply PySem.W.handed_on rfl
  have I2 := I1.tok (s1.toks + 1)
  apply PySem.W.callWith_K (h₀ := X.base) (first := []) I2.ok.mod.kin c.kp _ hst hpl
  apply thn (ha.run pos pins _ σ H1 _ I2 q)
  rintro us s3 ⟨vs, H2, I3, rv, q2⟩
  exact ⟨I3.kIn, wpAny_call (run_fnR F hr hx I3 rv q2)⟩
end
end G

namespace G
open PySem SX NumText

/-! ### texts of numbers, by their signs -/
def dig (c : Nat) : Bool := decide (48 ≤ c) && decide (c ≤ 57)
/-- figures alone, one at least -/
def figs (l : List Nat) : Bool := !l.isEmpty && l.all dig
theorem figs_of {l : List Nat} (h : figs l = true) : l ≠ [] ∧ AllDigits l := by
  obtain ⟨h1, h2⟩ := Bool.and_eq_true_iff.mp h
  refine ⟨(fun z => by rw [z] at h1; exact absurd h1 (by simp)), fun c hc => ?_⟩
  have z := List.all_eq_true.mp h2 c hc
  obtain ⟨z1, z2⟩ := Bool.and_eq_true_iff.mp z
  exact ⟨of_decide_eq_true z1, of_decide_eq_true z2⟩
theorem figs_mk {l : List Nat} (h1 : l ≠ []) (h2 : AllDigits l) : figs l = true := by
  refine Bool.and_eq_true_iff.mpr ⟨?_, List.all_eq_true.mpr fun c hc => ?_⟩
  · cases l
    · exact absurd rfl h1
    · rfl
  · obtain ⟨a, b⟩ := h2 c hc
    exact Bool.and_eq_true_iff.mpr ⟨decide_eq_true a, decide_eq_true b⟩
theorem ascii_S (l : List Nat) : Txt.isascii (S l) = l.all (· < 128) := by
  unfold Txt.isascii
  simp [S]
theorem dig_uni {c : Nat} (h : c < 128) : Unicode.isDigit c = dig c := by
  have e := PySem.W.os_isdigit h
  have e2 : Txt.isdigit ⟨#[c]⟩ = Unicode.isDigit c := by
    unfold Txt.isdigit
    simp [Str.length]
  rw [← e2, e]
  rfl
theorem isdigit_S {l : List Nat} (h : l.all (· < 128) = true) : Txt.isdigit (S l) = figs l := by
  unfold Txt.isdigit figs
  have e1 : decide ((S l).length > 0) = !l.isEmpty := by
    rw [S_len]
    cases l <;> simp
  have e2 : (S l).cps.all Unicode.isDigit = l.all dig := by
    rw [← Array.all_toList]
    show l.all Unicode.isDigit = l.all dig
    have : ∀ m : List Nat, m.all (· < 128) = true → m.all Unicode.isDigit = m.all dig := by
      intro m
      induction m with
      | nil => intro _; rfl
      | cons c r ih =>
        intro hm
        obtain ⟨a, b⟩ := Bool.and_eq_true_iff.mp (show (decide (c < 128) && r.all (· < 128)) = true from hm)
        rw [List.all_cons, List.all_cons, ih b, dig_uni (of_decide_eq_true a)]
    exact this l h
  rw [e1, e2]
theorem figs_ascii {l : List Nat} (h : figs l = true) : l.all (· < 128) = true := List.all_eq_true.mpr fun c hc => by
  have := (figs_of h).2 c hc
  exact decide_eq_true (by omega)
theorem sub_dash (l : List Nat) : Builtin.Str.subAt (S l) (S [45]) 0 = decide (l.head? = some 45) := by
  rw [PySem.StrLaws.subAt_eq]
  show ((l.drop 0).take 1 == [45]) = _
  cases l with
  | nil => rfl
  | cons c r =>
    rw [List.drop_zero]
    show ([c] == [45]) = decide (some c = some 45)
    by_cases h : c = 45
    · rw [h]; rfl
    · have h1 : ([c] == [45]) = false := by simpa using h
      have h2 : decide (some c = some 45) = false := by simpa using h
      rw [h1, h2]
theorem starts_dash (l : List Nat) : Txt.startswith (S l) (S [45]) = decide (l.head? = some 45) := by
  unfold Txt.startswith
  rw [sub_dash, S_len, S_len]
  cases l with
  | nil => rfl
  | cons c r =>
    have : decide (0 + ([45] : List Nat).length ≤ (c :: r).length) = true := decide_eq_true (by simp)
    rw [this, Bool.true_and]
/-- without a dash ahead -/
def bare (l : List Nat) : List Nat := if l.head? = some 45 then l.tail else l
theorem strSub_S (l : List Nat) (i j : Nat) : Builtin.Str.strSub (S l) i j = S ((l.drop i).take (j - i)) := by
  refine TL.ext_tl ?_
  show ((S l).cps.extract i j).toList = (l.drop i).take (j - i)
  rw [Array.toList_extract]
theorem bare_S (l : List Nat) : Txt.removeprefix (S l) (S [45]) = S (bare l) := by
  unfold Txt.removeprefix bare
  rw [sub_dash]
  by_cases h : l.head? = some 45
  · rw [decide_eq_true h, if_pos rfl, if_pos h]
    cases l with
    | nil => cases h
    | cons c r =>
      show Txt.affix (S (c :: r)) (some ((S [45]).length, (S (c :: r)).length)) = S r
      unfold Txt.affix
      rw [S_len, S_len]
      have : ¬ ((c :: r).length - ([45] : List Nat).length == (c :: r).length) = true := by simp
      show (if ((c :: r).length - ([45] : List Nat).length == (c :: r).length) = true then S (c :: r) else Builtin.Str.strSub (S (c :: r)) ([45] : List Nat).length (c :: r).length) = S r
      rw [if_neg this, strSub_S]
      simp
  · rw [decide_eq_false h, if_neg h]
    rfl
/-- filled up with noughts to so many -/
def filled (k : Nat) (l : List Nat) : List Nat := List.replicate (k - l.length) 48 ++ l
theorem filled_len {k : Nat} {l : List Nat} (h : l.length ≤ k) : (filled k l).length = k := by
  unfold filled
  rw [List.length_append, List.length_replicate]
  omega
theorem zfill_S {l : List Nat} {k : Nat} (hf : figs l = true) (h : l.length ≤ k) : Txt.zfill (S l) (k : Int) = S (filled k l) := by
  unfold Txt.zfill
  rw [S_len]
  obtain ⟨ne, ad⟩ := figs_of hf
  by_cases e : (k : Int) ≤ (l.length : Int)
  · rw [if_pos e]
    unfold filled
    rw [show k - l.length = 0 by omega]
    rfl
  · rw [if_neg e]
    unfold zfilled filled
    have e2 : ((k : Int).toNat - l.length) = k - l.length := by omega
    rw [e2]
    cases l with
    | nil => exact absurd rfl ne
    | cons c r =>
      obtain ⟨c1, c2⟩ := ad.head
      have z : (S (c :: r)).cps[0]? = some c := rfl
      rw [z]
      have fin : Builtin.Str.padded (S (c :: r)) (k - (c :: r).length) 0 48 = S (List.replicate (k - (c :: r).length) 48 ++ c :: r) := by
        refine TL.ext_tl ?_
        show (Array.replicate (k - (c :: r).length) 48 ++ (S (c :: r)).cps ++ Array.replicate 0 48).toList = _
        simp [S]
      split
      · rename_i h43
        obtain rfl := Option.some.inj h43
        omega
      · rename_i h45
        obtain rfl := Option.some.inj h45
        omega
      · exact fin
theorem val_zeros : ∀ (k : Nat) (l : List Nat), digitsVal (List.replicate k 48 ++ l) = digitsVal l
  | 0, l => rfl
  | k + 1, l => by
    show List.foldl _ 0 _ = _
    rw [List.replicate_succ, List.cons_append, List.foldl_cons]
    exact val_zeros k l
theorem filled_val (k : Nat) (l : List Nat) : digitsVal (filled k l) = digitsVal l := val_zeros _ _
theorem filled_digits {k : Nat} {l : List Nat} (h : AllDigits l) : AllDigits (filled k l) := fun c hc => by
  rcases List.mem_append.mp hc with z | z
  · rw [(List.mem_replicate.mp z).2]
    exact ⟨by decide, by decide⟩
  · exact h c z
theorem int_filled {k : Nat} {l : List Nat} (hf : figs l = true) (hk : l.length ≤ k) (h1 : k ≤ 640) : intText? (S (filled k l)) = some ((digitsVal l : Nat) : Int) := by
  obtain ⟨ne, ad⟩ := figs_of hf
  have e := intText_digits (x := S (filled k l)) (filled_digits ad) (fun z => by
    have : (filled k l).length = 0 := by rw [show filled k l = [] from z]; rfl
    rw [filled_len hk] at this
    cases l
    · exact ne rfl
    · simp at hk; omega) (by rw [S_len, filled_len hk]; omega)
  rw [e]
  show some ((digitsVal (filled k l) : Nat) : Int) = _
  rw [filled_val]
theorem int_figs {l : List Nat} (hf : figs l = true) (hk : l.length ≤ 640) : intText? (S l) = some ((digitsVal l : Nat) : Int) := by
  obtain ⟨ne, ad⟩ := figs_of hf
  exact intText_digits (x := S l) ad ne (by rw [S_len]; omega)
theorem val_lt : ∀ (l : List Nat) (a : Nat), AllDigits l → l.foldl (fun acc c => acc * 10 + (c - 48)) a < (a + 1) * 10 ^ l.length
  | [], a, _ => by simp
  | c :: r, a, h => by
    obtain ⟨c1, c2⟩ := h.head
    have z := val_lt r (a * 10 + (c - 48)) h.tail
    rw [List.foldl_cons]
    refine Nat.lt_of_lt_of_le z ?_
    rw [List.length_cons, Nat.pow_succ, Nat.mul_comm (10 ^ r.length) 10, ← Nat.mul_assoc]
    exact Nat.mul_le_mul_right _ (by omega)
theorem digitsVal_lt {l : List Nat} (h : AllDigits l) : digitsVal l < 10 ^ l.length := by
  have z := val_lt l 0 h
  rw [Nat.zero_add, Nat.one_mul] at z
  exact z
/-! ### the text of an integer, of a fraction -/
theorem S_cat_of (t : String) : Str.ofString ("-" ++ t) = S [45] ++ Str.ofString t := by
  refine TL.ext_tl ?_
  rw [TL.tl_append, PySem.Str.ofString_eq_toList, PySem.Str.ofString_eq_toList]
  show (List.map Char.toNat ("-" ++ t).toList) = [45] ++ List.map Char.toNat t.toList
  rw [String.toList_append, List.map_append]
  rfl
def intL (i : Int) : List Nat := if i < 0 then 45 :: TL.numL i.natAbs else TL.numL i.natAbs
theorem int_L (i : Int) : Str.ofString (toString i) = S (intL i) := by
  unfold intL
  by_cases h : i < 0
  · rw [if_pos h]
    obtain ⟨n, rfl⟩ : ∃ n : Nat, i = Int.negSucc n := ⟨(-i - 1).toNat, by omega⟩
    have e : toString (Int.negSucc n) = "-" ++ toString (n + 1) := rfl
    rw [e]
    have e2 : Str.ofString ("-" ++ toString (n + 1)) = S [45] ++ Str.ofString (toString (((n + 1 : Nat)) : Int)) := by
      have t : toString (((n + 1 : Nat)) : Int) = toString (n + 1) := rfl
      rw [t, S_cat_of]
    rw [e2, num_S, S_cat]
    rfl
  · rw [if_neg h]
    obtain ⟨n, rfl⟩ := Int.eq_ofNat_of_zero_le (show 0 ≤ i by omega)
    exact num_S n
/-- n / u -/
def ratL (n u : Int) : List Nat := if u = 1 then intL n else intL n ++ 47 :: intL u
theorem numL_figs (n : Nat) : figs (TL.numL n) = true := figs_mk (TL.numL_ne n) (TL.numL_digits n)
theorem bare_int (n : Int) : bare (intL n) = TL.numL n.natAbs := by
  unfold bare intL
  by_cases h : n < 0
  · rw [if_pos h]
    rfl
  · rw [if_neg h, if_neg]
    intro z
    have hne := TL.numL_ne n.natAbs
    cases e : TL.numL n.natAbs with
    | nil => exact hne e
    | cons c r =>
      rw [e] at z
      obtain rfl := Option.some.inj (show some c = some 45 from z)
      have := TL.numL_digits n.natAbs 45 (by rw [e]; exact List.mem_cons_self ..)
      omega
theorem head_int (n : Int) : (decide ((intL n).head? = some 45) : Bool) = decide (n < 0) := by
  unfold intL
  by_cases h : n < 0
  · rw [if_pos h, decide_eq_true h]
    rfl
  · rw [if_neg h, decide_eq_false h]
    refine decide_eq_false fun z => ?_
    cases e : TL.numL n.natAbs with
    | nil => exact TL.numL_ne _ e
    | cons c r =>
      rw [e] at z
      obtain rfl := Option.some.inj (show some c = some 45 from z)
      have := TL.numL_digits n.natAbs 45 (by rw [e]; exact List.mem_cons_self ..)
      omega
theorem intL_mem {n : Int} {c : Nat} (h : c ∈ intL n) : c = 45 ∨ (48 ≤ c ∧ c ≤ 57) := by
  unfold intL at h
  split at h
  · rcases List.mem_cons.mp h with z | z
    · exact .inl z
    · exact .inr (TL.numL_digits _ c z)
  · exact .inr (TL.numL_digits _ c h)
theorem int_free {n : Int} {c : Nat} (h : c ≠ 45) (h2 : c < 48 ∨ 57 < c) : c ∉ intL n := fun z => by
  rcases intL_mem z with e | ⟨a, b⟩
  · exact h e
  · omega
/-- no nought ahead of another figure -/
theorem num_lead : ∀ (n : Nat), (TL.numL n).head? = some 48 → n = 0 := fun n => by
  induction n using Nat.strongRecOn with
  | ind n ih =>
    intro h
    by_cases hn : n < 10
    · rw [TL.numL_lt hn] at h
      have := Option.some.inj h
      omega
    · rw [TL.numL_step (by omega)] at h
      have hne := TL.numL_ne (n / 10)
      cases e : TL.numL (n / 10) with
      | nil => exact absurd e hne
      | cons c r =>
        rw [e, List.cons_append] at h
        have h' : (TL.numL (n / 10)).head? = some 48 := by rw [e]; exact h
        have := ih (n / 10) (by omega) h'
        omega
end G

namespace G
open PySem SX NumText

/-! ### texts of fractions: how they come apart -/
theorem split_at (c : Nat) (l : List Nat) : c ∉ l ∨ ∃ p q, l = p ++ c :: q ∧ c ∉ p := by
  by_cases h : c ∈ l
  · exact .inr (List.eq_append_cons_of_mem h)
  · exact .inl h
theorem part_none {c : Nat} {l : List Nat} (h : c ∉ l) : Txt.partition (S l) (S [c]) = (S l, S [], S []) := partition_none (by simp) (par_head_none h)
theorem part_some {c : Nat} {p q : List Nat} (h : c ∉ p) : Txt.partition (S (p ++ c :: q)) (S [c]) = (S p, S [c], S q) := partition_some (by simp) (par_head (sep := []) q h)
theorem spl_none {c : Nat} {l : List Nat} (h : c ∉ l) : TL.spl [c] 0 [] l = [l] := TL.spl_last1 h
theorem spl_some {c : Nat} {p q : List Nat} (h : c ∉ p) : TL.spl [c] 0 [] (p ++ c :: q) = p :: TL.spl [c] 0 [] q := TL.spl_part1 (S := []) h
theorem spl_ne (c : Nat) (l : List Nat) : TL.spl [c] 0 [] l ≠ [] := by
  rcases split_at c l with h | ⟨p, q, rfl, h⟩
  · rw [spl_none h]; simp
  · rw [spl_some h]; simp
theorem spl_one {c : Nat} {l a : List Nat} (h : TL.spl [c] 0 [] l = [a]) : l = a := by
  rcases split_at c l with n | ⟨p, q, rfl, n⟩
  · rw [spl_none n] at h
    exact (List.cons.inj h).1
  · rw [spl_some n] at h
    exact absurd (List.cons.inj h).2 (spl_ne c q)
theorem spl_two {c : Nat} {l a b : List Nat} (h : TL.spl [c] 0 [] l = [a, b]) : l = a ++ c :: b := by
  rcases split_at c l with n | ⟨p, q, rfl, n⟩
  · rw [spl_none n] at h
    exact absurd (List.cons.inj h).2 (by simp)
  · rw [spl_some n] at h
    obtain ⟨e1, e2⟩ := List.cons.inj h
    rw [e1, spl_one e2]
theorem spl_len (c : Nat) : ∀ (k : Nat) (l : List Nat), l.length ≤ k → (TL.spl [c] 0 [] l).length ≤ l.length + 1 ∧ ∀ w ∈ TL.spl [c] 0 [] l, w.length ≤ l.length := fun k => by
  induction k with
  | zero =>
    intro l hl
    have e : l = [] := List.length_eq_zero_iff.mp (by omega)
    subst e
    rw [TL.spl_nil]
    exact ⟨by simp, fun w hw => by rw [List.mem_singleton.mp hw]; exact Nat.le_refl _⟩
  | succ k ih =>
    intro l hl
    rcases split_at c l with n | ⟨p, q, rfl, n⟩
    · rw [spl_none n]
      exact ⟨by simp, fun w hw => by rw [List.mem_singleton.mp hw]; exact Nat.le_refl _⟩
    · rw [spl_some n]
      simp only [List.length_append, List.length_cons] at hl ⊢
      obtain ⟨h1, h2⟩ := ih q (by omega)
      refine ⟨by omega, fun w hw => ?_⟩
      rcases List.mem_cons.mp hw with e | e
      · rw [e]; omega
      · have := h2 w e; omega
/-- the text is that of a fraction -/
def IsRat (l : List Nat) (n u : Int) : Prop := Red n u ∧ l = ratL n u
theorem intL_pos {u : Int} (h : 0 < u) : intL u = TL.numL u.natAbs := if_neg (by omega)
theorem ratL_one (n : Int) : ratL n 1 = intL n := if_pos rfl
theorem ratL_two {n u : Int} (h : u ≠ 1) : ratL n u = intL n ++ 47 :: intL u := if_neg h
theorem no47 (n : Int) : (47 : Nat) ∉ intL n := int_free (by decide) (.inl (by decide))
theorem no32 (n : Int) : (32 : Nat) ∉ intL n := int_free (by decide) (.inl (by decide))
theorem rat32 (n u : Int) : (32 : Nat) ∉ ratL n u := by
  unfold ratL
  split
  · exact no32 n
  · intro z
    rcases List.mem_append.mp z with e | e
    · exact no32 n e
    · rcases List.mem_cons.mp e with e | e
      · omega
      · exact no32 u e
/-- without a stroke -/
theorem rat_plain {l : List Nat} {n u : Int} (h : IsRat l n u) (f : (47 : Nat) ∉ l) : u = 1 ∧ l = intL n := by
  obtain ⟨r, rfl⟩ := h
  by_cases e : u = 1
  · exact ⟨e, by rw [e, ratL_one]⟩
  · rw [ratL_two e] at f
    exact absurd (List.mem_append_right _ (List.mem_cons_self ..)) f
/-- with one -/
theorem rat_stroke {p q : List Nat} {n u : Int} (h : IsRat (p ++ 47 :: q) n u) (f : (47 : Nat) ∉ p) : u ≠ 1 ∧ p = intL n ∧ q = TL.numL u.natAbs := by
  obtain ⟨r, e⟩ := h
  by_cases e1 : u = 1
  · rw [e1, ratL_one] at e
    exact absurd (by rw [← e]; exact List.mem_append_right _ (List.mem_cons_self ..)) (no47 n)
  · rw [ratL_two e1] at e
    have z := (par_head (sep := []) q f).symm.trans ((congrArg (TL.par [47] []) e).trans (par_head (sep := []) (intL u) (no47 n)))
    injection z with z
    injection z with z1 z2
    exact ⟨e1, z1, by rw [z2, intL_pos r.pos]⟩
theorem intL_inj {a b : Int} (h : intL a = intL b) : a = b := by
  have h1 := bare_int a
  have h2 := bare_int b
  rw [h] at h1
  have e1 := TL.numL_inj (h1.symm.trans h2)
  have e2 := head_int a
  rw [h, head_int b] at e2
  have e3 : (b < 0) ↔ (a < 0) := by
    constructor
    · intro z; exact of_decide_eq_true (e2.symm.trans (decide_eq_true z))
    · intro z; exact of_decide_eq_true (e2.trans (decide_eq_true z))
  omega
theorem isRat_inj {l : List Nat} {n u m t : Int} (h : IsRat l n u) (h' : IsRat l m t) : n = m ∧ u = t := by
  rcases split_at 47 l with f | ⟨p, q, rfl, f⟩
  · obtain ⟨e1, e2⟩ := rat_plain h f
    obtain ⟨e3, e4⟩ := rat_plain h' f
    exact ⟨intL_inj (e2.symm.trans e4), by rw [e1, e3]⟩
  · obtain ⟨_, e1, e2⟩ := rat_stroke h f
    obtain ⟨_, e3, e4⟩ := rat_stroke h' f
    have := TL.numL_inj (e2.symm.trans e4)
    have := h.1.pos
    have := h'.1.pos
    exact ⟨intL_inj (e1.symm.trans e3), by omega⟩
theorem numL_le {n k : Nat} (hk : 0 < k) (h : n < 10 ^ k) : (TL.numL n).length ≤ k := TL.numL_len hk h
theorem intL_le {n : Int} {k : Nat} (hk : 0 < k) (h : n.natAbs < 10 ^ k) : (intL n).length ≤ k + 1 := by
  have := numL_le hk h
  unfold intL
  split
  · rw [List.length_cons]; omega
  · omega
theorem ratL_le {n u : Int} {k j : Nat} (hk : 0 < k) (hj : 0 < j) (h : n.natAbs < 10 ^ k) (h' : u.natAbs < 10 ^ j) : (ratL n u).length ≤ k + j + 3 := by
  have h1 := intL_le hk h
  have h2 := intL_le hj h'
  unfold ratL
  split
  · omega
  · rw [List.length_append, List.length_cons]; omega
theorem digits_small {l : List Nat} {k : Nat} (h : figs l = true) (hl : l.length ≤ k) : digitsVal l < 10 ^ k := Nat.lt_of_lt_of_le (digitsVal_lt (figs_of h).2) (Nat.pow_le_pow_right (by decide) hl)
/-! ### the law's own reading of figures -/
def figN (w : List Nat) : Int := if figs w = true ∧ ¬ (w.head? = some 48 ∧ w ≠ [48]) then ((digitsVal w : Nat) : Int) else -1
theorem figN_num (n : Nat) : figN (TL.numL n) = (n : Int) := by
  have h : ¬ ((TL.numL n).head? = some 48 ∧ TL.numL n ≠ [48]) := by
    rintro ⟨h1, h2⟩
    have := num_lead n h1
    subst this
    exact h2 (TL.numL_lt (by decide))
  unfold figN
  rw [if_pos ⟨numL_figs n, h⟩, TL.numL_val]
theorem figN_le {w : List Nat} {k : Nat} (hk : 0 < k) (h : w.length ≤ k) : (figN w).natAbs < 10 ^ k := by
  unfold figN
  split
  · rename_i c
    have := digits_small c.1 h
    omega
  · exact Nat.one_lt_pow (by omega) (by decide)
theorem bare_len (l : List Nat) : (bare l).length ≤ l.length := by
  unfold bare
  split
  · rw [List.length_tail]; omega
  · exact Nat.le_refl _
theorem in_fig (c : Nat) : decide (c ∈ (Str.cps "0123456789").toList) = dig c := by
  have e : (Str.cps "0123456789").toList = [48, 49, 50, 51, 52, 53, 54, 55, 56, 57] := by rfl
  rw [e]
  unfold dig
  by_cases h : 48 ≤ c ∧ c ≤ 57
  · rw [decide_eq_true h.1, decide_eq_true h.2]
    refine decide_eq_true ?_
    simp only [List.mem_cons, List.not_mem_nil, or_false]
    omega
  · have : (decide (48 ≤ c) && decide (c ≤ 57)) = false := by
      rw [Bool.and_eq_false_iff]
      by_cases h1 : 48 ≤ c
      · exact .inr (decide_eq_false fun z => h ⟨h1, z⟩)
      · exact .inl (decide_eq_false h1)
    rw [this]
    refine decide_eq_false fun z => h ?_
    simp only [List.mem_cons, List.not_mem_nil, or_false] at z
    omega
/-! ### slices -/
theorem slice_ab (m : List Nat) (i j : Nat) : Txt.slice (S m) (some (i : Int)) (some (j : Int)) = S ((m.drop (min i m.length)).take (min j m.length - min i m.length)) := by
  rw [← C8.cutS_slice]
  unfold L2.cutS
  rw [HT.sIx_nat, HT.sIx_nat, S_len]
theorem emp_cat (m : List Nat) : Str.empty ++ S m = S m := S_cat [] m
theorem stroke_S : Str.ofString "/" = S [47] := rfl
theorem blank_S : Str.ofString " " = S [32] := rfl
end G
namespace G
open PySem SX NumText
/-! ### short texts of plain signs -/
def TxtOk (l : List Nat) (k : Nat) : Prop := l.length ≤ k ∧ ∀ c ∈ l, c < 128
theorem TxtOk.mono {l : List Nat} {j k : Nat} (h : TxtOk l j) (hk : j ≤ k) : TxtOk l k := ⟨Nat.le_trans h.1 hk, h.2⟩
theorem TxtOk.app {l m : List Nat} {j k n : Nat} (h : TxtOk l j) (h' : TxtOk m k) (hn : j + k ≤ n) : TxtOk (l ++ m) n := ⟨by rw [List.length_append]; have := h.1; have := h'.1; omega, fun c hc => (List.mem_append.mp hc).elim (h.2 c) (h'.2 c)⟩
theorem TxtOk.take {l : List Nat} {k : Nat} (h : TxtOk l k) (i : Nat) : TxtOk (l.take i) (min i l.length) := ⟨by rw [List.length_take]; omega, fun c hc => h.2 c (List.mem_of_mem_take hc)⟩
theorem TxtOk.drop {l : List Nat} {k : Nat} (h : TxtOk l k) (i : Nat) : TxtOk (l.drop i) (l.length - i) := ⟨by rw [List.length_drop]; omega, fun c hc => h.2 c (List.mem_of_mem_drop hc)⟩
theorem txt_of (l : List Nat) (k : Nat) (h : (decide (l.length ≤ k) && l.all (· < 128)) = true) : TxtOk l k := by
  obtain ⟨h1, h2⟩ := Bool.and_eq_true_iff.mp h
  exact ⟨of_decide_eq_true h1, fun c hc => of_decide_eq_true (List.all_eq_true.mp h2 c hc)⟩
theorem slice_end {l : List Nat} {k : Nat} (h : TxtOk l k) : ∃ r, Txt.slice (S l) (some (-1)) none = S r ∧ TxtOk r 1 := by
  by_cases e : l = []
  · subst e
    exact ⟨[], rfl, by simp, fun c hc => nomatch hc⟩
  · refine ⟨_, slice_last e, ?_, fun c hc => h.2 c (List.mem_of_mem_drop hc)⟩
    rw [List.length_drop]
    omega
theorem slice_one {l : List Nat} {k : Nat} (h : TxtOk l k) (j : Nat) : ∃ r, Txt.slice (S l) (some (j : Int)) (some ((j : Int) + 1)) = S r ∧ TxtOk r 1 := by
  refine ⟨_, slice_ab l j (j + 1), ?_, fun c hc => h.2 c (List.mem_of_mem_drop (List.mem_of_mem_take hc))⟩
  rw [List.length_take]
  omega
theorem int_txt (n : Int) : ∀ c ∈ intL n, c < 128 := fun c hc => by
  rcases intL_mem hc with e | e <;> omega
theorem rat_txt (n u : Int) : ∀ c ∈ ratL n u, c < 128 := fun c hc => by
  unfold ratL at hc
  split at hc
  · exact int_txt n c hc
  · rcases List.mem_append.mp hc with e | e
    · exact int_txt n c e
    · rcases List.mem_cons.mp e with e | e
      · omega
      · exact int_txt u c e
end G

namespace G
open PySem PySem.Spec PyProof.Rows L2

/-! ### a list comprehension without tests whose element makes new things at most -/
/-- all but lists stays -/
def NoL (H H' : Hp) : Prop := ∀ b o, H b = some o → (∀ zs, o ≠ .lst zs) → H' b = some o
theorem NoL.same {H H' : Hp} (S : Same H H') : NoL H H' := fun b o e _ => S b o e
theorem noL_upd {H : Hp} {D : Addr} {xs ys : List V} (h : H D = some (.lst xs)) : NoL H (upd H D (.lst ys)) := fun b o e n => by
  have : b ≠ D := fun z => by
    rw [z, h] at e
    exact n xs (Option.some.inj e).symm
  rw [upd_ne this]
  exact e
theorem lc_rel {K : PySem.W.Frag} {a : Addr} {xs : List V} {i0 : Nat} {te : TE} {vs : List Nat} {σ : L2.St} {H1 : Hp} {D : Addr} {Qd : Hp → Prop} (R : V → V → Hp → Prop) (hR : ∀ x y H H', NoL H H' → R x y H → R x y H')
    (hD : H1 D = none) (ha : SqL K H1 a xs) (hz : xs.length < sizeLine) (hw : ∀ x, wipe ((wipe σ vs).set i0 (some x)) vs = wipe σ vs)
    (he : ∀ x ∈ xs, ∀ H' (Q : VK), Same H1 H' → (∀ y H'', Same H' H'' → R x y H'' → Q y H'') → te ((wipe σ vs).set i0 (some x)) H' Q)
    (hd : ∀ ys H', Same H1 H' → H' D = some (.lst ys) → Paired (fun x y => R x y H') xs ys → Qd H') :
    ∃ W : Nat → Nat → Hp → Prop, (∃ m, W 0 m (upd H1 D (.lst []))) ∧ ∀ i m H, W i m H →
      ((Itl K a).stop i H ∧ Qd H) ∨ ((Itl K a).go i H ∧ ∃ Nx : Hp → Prop, (∀ H', Nx H' → ∃ m', m' < m ∧ W (i + 1) m' H') ∧ ∀ x H', (Itl K a).yld i H x H' → gName i0 x (wipe σ vs) H' fun σ2 H2 => wipe σ2 vs = wipe σ vs ∧ tYes σ2 H2 fun b H3 =>
        if b = true then te σ2 H3 fun y H4 => ∃ acc, H4 D = some (.lst acc) ∧ acc.length < sizeLine ∧ Nx (upd H4 D (.lst (acc ++ [y]))) else Nx H3) := by
  refine lc_list (K := K) (a := a) (xs := xs) (fun i H' => Same H1 H' ∧ ∃ ys, H' D = some (.lst ys) ∧ Paired (fun x y => R x y H') (xs.take i) ys) ⟨same_new hD, [], upd_same, by rw [List.take_zero]; exact .nil⟩ ?_ ?_ ?_
  · rintro i H' hi ⟨S, _⟩
    exact S.seq ha
  · rintro i x H' hx ⟨S, ys, dy, p⟩
    obtain ⟨hi, ex⟩ := List.getElem?_eq_some_iff.mp hx
    refine ⟨hw x, ?_⟩
    unfold tYes
    refine iteT (he x (ex ▸ List.getElem_mem hi) H' _ S fun y H'' S2 r => ?_)
    have d2 := S2 _ _ dy
    have len := p.length
    rw [List.length_take] at len
    refine ⟨ys, d2, by omega, fun b o e => ?_, ys ++ [y], upd_same, ?_⟩
    · rw [upd_ne (ne_of_none e hD)]
      exact S2 _ _ (S _ _ e)
    · rw [List.take_succ, hx]
      have nl := noL_upd (ys := ys ++ [y]) d2
      refine PySem.Paired.snoc (Paired.mapP p fun x y r => hR _ _ _ _ nl (hR _ _ _ _ (NoL.same S2) r)) (hR _ _ _ _ nl r)
  · rintro H' ⟨S, ys, dy, p⟩
    rw [List.take_length] at p
    exact hd ys H' S dy p
end G

namespace G
open PySem PySem.Spec PyProof.Rows L2 SX

/-! ### repr of data with longer ints -/
structure GdF (d : PyData) : Prop where
  short : d.leavesShort 80 = true
  show_ : d.showable = true
  depth : d.depth ≤ 10
  weight : d.weight ≤ 10000
theorem GdF.fits {d : PyData} (g : GdF d) : d.shown.length ≤ sizeLine := by
  have := PyData.shown_le 80 (by decide) d g.short
  have h := g.weight
  rw [sizeLine_eq]
  have : (80 + 2) * d.weight ≤ 82 * 10000 := Nat.mul_le_mul (by decide) h
  omega
mutual
/-- data without dicts -/
inductive Dz (H : Hp) : V → PyData → Prop
  | int (i : Int) : Dz H (.int i) (.int i)
  | non : Dz H .non .none
  | lst {a : Addr} {xs : List V} {ds : List PyData} : H a = some (.lst xs) → DzAll H xs ds → Dz H (.ref a) (.list ds)
  | tup {a : Addr} {xs : List V} {ds : List PyData} : H a = some (.tup xs) → DzAll H xs ds → Dz H (.ref a) (.tuple ds)
inductive DzAll (H : Hp) : List V → List PyData → Prop
  | nil : DzAll H [] []
  | cons {v : V} {vs : List V} {d : PyData} {ds : List PyData} : Dz H v d → DzAll H vs ds → DzAll H (v :: vs) (d :: ds)
end
section
variable {X : Cx} {pins : List (Addr × Obj)} {σ : L2.St} {H : Hp} {s : Shared}
mutual
theorem Dz.reads (I : Inv X pins σ H s) : ∀ {v : V} {d : PyData} {u : Value}, Dz H v d → RelV v u → ∃ as, Reads s.heap u d as
  | _, _, _, .non, r => by cases r; exact ⟨_, .none⟩
  | _, _, _, .int i, r => by obtain ⟨t, rfl⟩ := r; exact ⟨_, .int i t⟩
  | _, _, _, .lst e t, r => by
    cases r
    obtain ⟨_, its, m, rv, ho⟩ := I.hok _ _ e
    obtain ⟨as, hr⟩ := DzAll.reads I t rv
    exact ⟨_, .list ho rfl rfl hr⟩
  | _, _, _, .tup e t, r => by
    cases r
    obtain ⟨_, its, rv, o, ho, hc, m, hd⟩ := I.hok _ _ e
    obtain ⟨as, hr⟩ := DzAll.reads I t rv
    exact ⟨_, .tuple ho hc hd hr⟩
theorem DzAll.reads (I : Inv X pins σ H s) : ∀ {vs : List V} {ds : List PyData} {us : List Value}, DzAll H vs ds → Vals vs us → ∃ as, ReadsAll s.heap us ds as
  | _, _, _, .nil, r => by cases r; exact ⟨_, .nil⟩
  | _, _, _, .cons h t, r => by
    cases r with
    | cons r1 r2 =>
      obtain ⟨as, q1⟩ := Dz.reads I h r1
      obtain ⟨bs, q2⟩ := DzAll.reads I t r2
      exact ⟨_, .cons q1 q2⟩
end
end
theorem call_reprF {X : Cx} (hq : Quiet X.A) (hu : X.A.units + 64 < cLine) : CallR X (.builtin "repr") (fun xs H Q => ∃ a d, xs = [.ref a] ∧ Dz H (.ref a) d ∧ GdF d ∧ d.hasDict = false ∧ Q (.str d.shown) H) := by
  intro pins s σ H xs us Q I r h
  obtain ⟨a, d, rfl, hd, g, nd, q⟩ := h
  obtain ⟨u, rfl, ru⟩ := vals1 r
  cases ru
  obtain ⟨as, hr⟩ := Dz.reads I hd rfl
  refine repr_of_reads' (h₀ := s.heap) hr g.show_ (fun z => by rw [nd] at z; cases z) hq (by have := g.depth; omega) (fun _ _ z => z) (fun h' t tk hk => ?_) g.fits
  exact ⟨.str d.shown, H, I.kept hk, ⟨_, rfl⟩, q⟩
/-- two ints -/
def Mid (i : Int) : Prop := i.natAbs < 10 ^ 64
theorem mid_short {i : Int} (h : Mid i) : (PyData.int i).leavesShort 80 = true := by
  refine decide_eq_true ?_
  show (Str.ofString (toString i)).length ≤ 80
  rw [int_L, S_len]
  have := intL_le (k := 64) (by decide) h
  omega
theorem mid_show {i : Int} (h : Mid i) : (PyData.int i).showable = true := decide_eq_true (Nat.lt_of_lt_of_le (PySem.Flt.log2_lt_of (k := 213) (by decide) (Nat.lt_of_lt_of_le h (by decide +kernel))) (by decide))
theorem mid_weight {i : Int} (h : Mid i) : (PyData.int i).weight ≤ 300 := by
  have := PySem.Flt.log2_lt_of (k := 213) (by decide) (Nat.lt_of_lt_of_le h (show 10 ^ 64 ≤ 2 ^ 213 by decide +kernel))
  show (if i == 0 then 0 else i.natAbs.log2 + 1) ≤ 300
  split <;> omega
def pairD (n u : Int) : PyData := .tuple [.int n, .int u]
theorem pair_good {n u : Int} (h : Mid n) (h' : Mid u) : (pairD n u).leavesShort 80 = true ∧ (pairD n u).showable = true ∧ (pairD n u).depth ≤ 1 ∧ (pairD n u).weight ≤ 1000 := by
  refine ⟨?_, ?_, ?_, ?_⟩
  · show ((PyData.int n).leavesShort 80 && ((PyData.int u).leavesShort 80 && true)) = true
    rw [mid_short h, mid_short h']
    rfl
  · show ((PyData.int n).showable && ((PyData.int u).showable && true)) = true
    rw [mid_show h, mid_show h']
    rfl
  · show max 0 (max 0 0) + 1 ≤ 1
    decide
  · show (PyData.int n).weight + 1 + ((PyData.int u).weight + 1 + 0) ≤ 1000
    have := mid_weight h
    have := mid_weight h'
    omega
theorem pair_gd {n u : Int} (h : Mid n) (h' : Mid u) : GdF (pairD n u) := by
  obtain ⟨a, b, c, d⟩ := pair_good h h'
  exact ⟨a, b, by omega, by omega⟩
theorem pairs_gd {n u m t : Int} (h1 : Mid n) (h2 : Mid u) (h3 : Mid m) (h4 : Mid t) : GdF (.list [pairD n u, pairD m t]) := by
  obtain ⟨a, b, c, d⟩ := pair_good h1 h2
  obtain ⟨a', b', c', d'⟩ := pair_good h3 h4
  refine ⟨?_, ?_, ?_, ?_⟩
  · show ((pairD n u).leavesShort 80 && ((pairD m t).leavesShort 80 && true)) = true
    rw [a, a']
    rfl
  · show ((pairD n u).showable && ((pairD m t).showable && true)) = true
    rw [b, b']
    rfl
  · show max (pairD n u).depth (max (pairD m t).depth 0) + 1 ≤ 10
    omega
  · show (pairD n u).weight + 1 + ((pairD m t).weight + 1 + 0) ≤ 10000
    omega
theorem rat_small {l : List Nat} {n u : Int} (h : IsRat l n u) (hl : l.length ≤ 60) : Mid n ∧ Mid u ∧ 0 < u := by
  have hp := h.1.pos
  have up : ∀ k : Nat, (TL.numL k).length ≤ 60 → k < 10 ^ 64 := fun k hk => by
    have := digits_small (numL_figs k) hk
    rw [TL.numL_val] at this
    exact Nat.lt_of_lt_of_le this (by decide +kernel)
  have num : (TL.numL n.natAbs).length ≤ (intL n).length := by
    unfold intL
    split
    · rw [List.length_cons]; omega
    · exact Nat.le_refl _
  rcases split_at 47 l with f | ⟨p, q, rfl, f⟩
  · obtain ⟨rfl, rfl⟩ := rat_plain h f
    exact ⟨up _ (by omega), by show (1 : Int).natAbs < 10 ^ 64; decide +kernel, by decide⟩
  · obtain ⟨_, rfl, rfl⟩ := rat_stroke h f
    rw [List.length_append, List.length_cons] at hl
    exact ⟨up _ (by omega), up _ (by omega), hp⟩
end G

namespace G
open PySem PySem.Spec PyProof.Rows L2

/-! ### a list comprehension whose element may look at the def's frame as it stands when the comprehension begins -/
section
variable {X : Cx} {elt tg iter : Expr} {scope : Scope} {own : List (Str × Nat)} {pos : Pos} {wi : TI} {g : TG} {te : L2.St → TE}
/-- the block's own environment -/
abbrev inEnv (X : Cx) (scope : Scope) (z : Nat) : Env := compEnvC scope (cellsFrom (z + 1) scope.names (cloFrom X.env.cells scope.names [])) z X.env
/-- behind a turn, and ahead of the first one -/
def Between (B : Cx) (vs : List Nat) (σ : L2.St) (fp : List Addr) (tn : Nat → Heap → Prop) (W : Nat → Nat → Hp → Prop) (n : Nat) (s : Shared) : Prop :=
  ∃ i H, Inv B [] (wipe σ vs) H s ∧ tn i s.heap ∧ (∀ b ∈ fp, H b = none) ∧ W i n H
theorem between_next {B : Cx} {vs : List Nat} {σ σ1 : L2.St} {fp : List Addr} {tn : Nat → Heap → Prop} {W : Nat → Nat → Hp → Prop} {tg : Expr} {J : It} {it : Addr} {i m n : Nat} {h : Heap} {H : Hp} {s : Shared}
    (T : Turn B.prog B.w B.K tg J fp it tn) (I : Inv B ([] ++ pinsAt fp h) σ1 H s) (st : tn i h) (same : wipe σ1 vs = wipe σ vs) (hw : W i m H) (hm : m < n) : ∃ k, k < n ∧ Between B vs σ fp tn W k s := by
  have stays : ∀ b ∈ fp, ∀ o, h.get? b = some o → s.heap.get? b = some o ∧ H b = none := fun b hb o e =>
    have z := I.pin (b, o) (List.mem_append_right _ (List.mem_append_right _ (mem_pinsAt hb e)))
    ⟨z.1, z.2.1⟩
  refine ⟨m, hm, i, H, ?_, T.keep _ _ _ st fun b hb o e => (stays b hb o e).1, fun b hb => ?_, hw⟩
  · have len : (wipe σ vs).length = σ1.length := by rw [← same, wipe_length]
    refine I.unpinned.weak len fun j v e => ?_
    rw [← same] at e
    exact (wipe_some e).1
  · obtain ⟨o, e, _⟩ := T.obj _ _ st b hb
    exact (stays b hb o e).2
theorem pe_lcC (hc : X.calm = true) (hN : X.N.Nodup) (hi : PI X tg iter wi) (ok : BlkOk X.N X.env.scope scope own)
    (hg : ∀ (s : Shared) (H : Hp) (C : Addr) (cl : List (Str × Addr)) (fp : List Addr), PG (X.blk s H scope (compEnvC scope cl C X.env) fp) tg g)
    (he : ∀ (pins : List (Addr × Obj)) (σ : L2.St) (s : Shared) (H : Hp) (C : Addr) (cl : List (Str × Addr)) (fp : List Addr), Inv X pins σ H s → (∀ b ∈ fp, FpOk X pins H b) → PE (X.blk s H scope (compEnvC scope cl C X.env) fp) elt (te σ))
    (hs : ∀ x, foldedSetIterable iter X.env x = pure x := by intro _; rfl) :
    PE X (.ListComp elt [⟨tg, iter, [], 0⟩] scope pos) (fun σ H Q => tLc wi g tYes (te σ) (own.map (·.2)) σ H Q) := by
  constructor
  intro pins s σ H Q I h
  rw [eval_ListComp]
  have caught : ∀ y ∈ scope.names, y.2 = .free → ∃ c, X.env.cells.lookup y.1 = some c := fun y hy e => (ok.free y hy e).elim (fun k => I.ok.has _ (.inl k)) fun k => I.ok.has _ (.inr k)
  apply wpAny_comprehension_free (use := none) rfl hs (closure_ok caught) ok.kind (fun y hy e => by rw [ok.uniq y hy, e])
  apply thn (hi.run pins s σ H _ I h)
  intro v s1 h1
  apply thn h1
  rintro itv s2 ⟨it, fp, tn, J, H2, rfl, I2, T, st2, f2, q⟩
  apply wpAny_newObj_type _ (by show 0 ≤ sizeLine; decide)
  apply newEnv_comp
  -- the list that is to be filled
  obtain ⟨W, ⟨m0, w0⟩, turn⟩ := q s2.heap.objs.size (I2.hok.fresh (Nat.le_refl _))
  let L : Addr := s2.heap.objs.size
  let s3 : Shared := { s2 with heap := s2.heap.push { cls := .type "list", data := .seq ([] : List Value).toArray } }
  let H3 : Hp := upd H2 L (.lst [])
  have up : ∀ b o, s2.heap.get? b = some o → s3.heap.get? b = some o := fun b o e => Heap.get?_push_of_some _ e
  have I3 : Inv X pins σ H3 s3 := I2.laid (t' := s2.toks) up (Nat.le_refl _) ⟨Nat.zero_le _, [], 0, .nil, Heap.get?_push_size _ rfl⟩
  have old : ∀ b ∈ fp, b < s2.heap.objs.size := fun b hb => by
    obtain ⟨o, e, _⟩ := T.obj _ _ st2 b hb
    exact Heap.lt_size e
  have z3 : s3.heap.objs.size = s2.heap.objs.size + 1 := Heap.size_push ..
  have f3 : ∀ b ∈ fp, FpOk X pins H3 b := fun b hb => ⟨(upd_ne (Nat.ne_of_lt (old b hb))).trans (f2 b hb).1, (f2 b hb).2⟩
  have I4 := block_start I3 ok hN fun b hb => ⟨f3 b hb, Nat.lt_of_lt_of_le (old b hb) (by rw [z3]; exact Nat.le_succ _)⟩
  let B : Cx := X.blk s3 H3 scope (inEnv X scope s3.heap.objs.size) fp
  have st3 : tn 0 s3.heap := T.keep _ _ _ st2 fun b _ o e => up b o e
  let s4 : Shared := { s3 with heap := pushCells (s3.heap.push { cls := .type "dict", data := .dict #[] }) scope.names }
  have st4 : tn 0 s4.heap := T.keep _ _ _ st3 fun b _ o e => pushCells_keeps _ _ _ _ (Heap.get?_push_of_some _ e)
  replace I4 : Inv B [] (wipe σ (own.map (·.2))) H3 s4 := I4
  have mine : ∀ {σ' : L2.St} {H' : Hp} {s' : Shared}, Inv B [] σ' H' s' → (∀ b ∈ fp, H' b = none) → ∀ b ∈ fp, FpOk B [] H' b := fun J n b hb =>
    ⟨n b hb, (J.ok.exf b hb).1, J.ok.exfs b hb, .inl hb, fun x c e => (J.ok.exf b hb).2 x c e, fun p hp => nomatch (show p ∈ ([] : List (Addr × Obj)) from hp)⟩
  show codeAny _ _ (.compStart _ 0 (.ref it) (.ref L) (inEnv X scope s3.heap.objs.size)) _ s4
  have all : codeAny (model X.prog X.w) X.A (.compLoop (.ListComp elt [⟨tg, iter, [], 0⟩] scope pos) 0 (.ref it) (.ref L) (inEnv X scope s3.heap.objs.size)) (compPost (model X.prog X.w) X.A X.xe none (EP X pins σ Q) (.ref L) s3.heap.objs.size) s4 := by
    apply compLoop_any (Between B (own.map (·.2)) σ fp tn W) _ m0 ⟨0, H3, I4, st4, fun b hb => (f3 b hb).1, w0⟩
    rintro n s5 ⟨i, H5, I5, st5, n5, w5⟩
    rcases turn i n H5 w5 with ⟨stop, fin⟩ | ⟨go, Nx, hNx, step⟩
    · -- no item left
      apply thnF (T.done B rfl rfl rfl hc i [] s5 _ H5 (fun _ _ => False) I5 (mine I5 n5) st5 stop)
      rintro r s6 ⟨rfl, I6⟩
      have I7 : Inv X pins σ H5 s6 := I3.call' (ch := fp) I6.os I6.base I6.hok I6.bare fun b hb => ⟨(f3 b hb).2.2.2.1, (f3 b hb).2.1, (f3 b hb).2.2.2.2.1, (f3 b hb).2.2.2.2.2⟩
      obtain ⟨m, hn, _⟩ := I6.loc
      refine ⟨m, hn, fun h'' sb => ?_⟩
      obtain ⟨g0, g1, g2, g3, g4, g5⟩ := I3.fpOk (Nat.le_refl _) (show H5 s3.heap.objs.size = none from I6.free)
      exact ⟨.ref L, H5, I7.turned (t' := s6.toks) (fun b o hb e => (sb.2 b hb).trans e) g0 g1 g3 g4 g5, rfl, fin⟩
    · -- one more
      apply thnF (T.item B rfl rfl rfl hc i [] s5 _ H5 (fun _ _ => False) I5 (mine I5 n5) st5 go)
      rintro r s6 ⟨u, rfl, h6⟩
      apply thnF h6
      rintro _ s7 ⟨x, H7, I7, r7, y7, st7, n7⟩
      have J7 := I7.pinned (mine I7 n7) (T.obj _ _ st7)
      apply thnF ((hg s3 H3 _ _ fp).run _ s7 _ H7 x u _ J7 r7 (step x H7 y7))
      rintro _ s8 ⟨σ8, H8, I8, same, q8⟩
      apply thnF ((pts_nil (X := B)).run _ s8 σ8 H8 _ I8 q8)
      rintro b s9 ⟨H9, I9, q9⟩
      cases b with
      | false =>
        rw [if_neg Bool.false_ne_true] at q9 ⊢
        obtain ⟨m', hm, w'⟩ := hNx _ q9
        exact between_next T I9 st7 same w' hm
      | true =>
        rw [if_pos rfl] at q9 ⊢
        apply thnF ((he pins σ s3 H3 s3.heap.objs.size _ fp I3 f3).run _ s9 σ8 H9 _ I9 q9)
        rintro z s10 ⟨yv, H10, I10, r10, acc, hD, hz, nx⟩
        apply app_ok (X := B) I10 hD hz r10
        intro s11 I11
        obtain ⟨m', hm, w'⟩ := hNx _ nx
        exact between_next T I11 st7 same w' hm
  exact codeAny_compStart_list all (T.self X.A 0 _ _ _ st4 all)
end
end G

namespace G
open PySem PySem.Spec PyProof.Rows L2 LamX NdefX

/-! ### lambdas that are kept: in slots, in lists, handed on -/
/-- a lambda's words, the cells that it captured, its code object -/
structure LF where
  qual : Str
  params : Arguments
  body : Expr
  scope : Scope
  cl : List (Str × Addr)
  c : Addr
abbrev LF.nf (F : LF) : NF := ⟨"<lambda>", F.qual, F.params, [], F.scope, F.cl, F.c⟩
/-- the object at f is the lambda F -/
def LamO (f : Addr) (F : LF) : HO := .ext fun h => ∃ pm ctv : Value, h.get? f = some (PySem.W.kla_obj "<lambda>" F.qual F.params F.body F.scope F.cl pm F.c ctv)
theorem lamO_ne {f : Addr} {F : LF} (ps : Array Value) : LamO f F ≠ .tbl ps := fun z => by
  unfold LamO at z
  cases z
theorem lamO_no {f : Addr} {F : LF} {xs : List V} : LamO f F ≠ .lst xs := fun z => by
  unfold LamO at z
  cases z
theorem lamO_at {P : Program} {w : World} {H : Hp} {h : Heap} {f : Addr} {F : LF} (hok : HOk P w H h) (e : H f = some (LamO f F)) : ∃ pm ctv : Value, h.get? f = some (PySem.W.kla_obj "<lambda>" F.qual F.params F.body F.scope F.cl pm F.c ctv) := (hok f _ e).1
section
variable {X : Cx} {pins : List (Addr × Obj)} {σ : L2.St} {H : Hp} {s : Shared}
/-- it is known from its making on -/
theorem lam_put {F : LF} {h' : Heap} {t : Nat} {pm ctv : Value} {H1 : Hp} (I : Inv X pins σ H1 { s with heap := h', toks := t }) :
    Inv X pins σ (upd H1 h'.objs.size (LamO h'.objs.size F)) { s with heap := h'.push (PySem.W.kla_obj "<lambda>" F.qual F.params F.body F.scope F.cl pm F.c ctv), toks := t } := by
  have e : (h'.push (PySem.W.kla_obj "<lambda>" F.qual F.params F.body F.scope F.cl pm F.c ctv)).get? h'.objs.size = some (PySem.W.kla_obj "<lambda>" F.qual F.params F.body F.scope F.cl pm F.c ctv) := Heap.get?_push_size _ rfl
  exact I.laid (t' := t) (a := h'.objs.size) (fun b u z => Heap.get?_push_of_some _ z) (Nat.le_refl _) ⟨⟨pm, ctv, e⟩, ⟨_, e⟩, fun h1 h2 ⟨p, q, z⟩ st => ⟨p, q, st _ z⟩⟩
/-- the table with one more code object -/
theorem tabs_more {T : List (Addr × Str)} {P c' : Addr} {q : Str} {ps : Array Value} {pos : Pos} (hT : Tabs T H) (hm : (P, q) ∈ T) (hu : ∀ p ∈ T, p.1 = P → p.2 = q) (hP : H P = some (.tbl ps)) (nC : H c' = none) :
    Tabs T (upd (upd H P (.tbl (ps ++ #[rawInt pos.line, rawInt pos.col, .ref c']))) c' (CodeO c' q)) ∧ ExtN H (upd (upd H P (.tbl (ps ++ #[rawInt pos.line, rawInt pos.col, .ref c']))) c' (CodeO c' q)) := by
  have nPc : P ≠ c' := ne_of_none hP nC
  have ext : ExtN H (upd (upd H P (.tbl (ps ++ #[rawInt pos.line, rawInt pos.col, .ref c']))) c' (CodeO c' q)) := by
    intro b o e n
    have b1 : b ≠ c' := ne_of_none e nC
    have b2 : b ≠ P := fun z => by
      rw [z, hP] at e
      exact n ps (Option.some.inj e).symm
    rw [upd_ne b1, upd_ne b2, e]
  have list : (ps ++ #[rawInt pos.line, rawInt pos.col, .ref c']).toList = ps.toList ++ [rawInt pos.line, rawInt pos.col, .ref c'] := by simp
  refine ⟨fun p hp => ?_, ext⟩
  obtain ⟨ps1, h1, h2, h3⟩ := hT p hp
  by_cases same : p.1 = P
  · rw [same, hP] at h1
    cases h1
    refine ⟨_, by rw [same, upd_ne nPc, upd_same], by rw [list]; exact PySem.TriplesOk_snoc _ _ _ _ h2, fun p' cv hcv => ?_⟩
    rw [list] at hcv
    rw [hu p hp same]
    rcases among_app _ h2 hcv with z | z
    · obtain ⟨c0, e1, e2⟩ := h3 p' cv z
      rw [hu p hp same] at e2
      exact ⟨c0, e1, ext _ _ e2 codeO_ne⟩
    · exact ⟨c', z, upd_same⟩
  · refine ⟨ps1, by rw [upd_ne (ne_of_none h1 nC), upd_ne same]; exact h1, h2, fun p' cv hcv => ?_⟩
    obtain ⟨c0, e1, e2⟩ := h3 p' cv hcv
    exact ⟨c0, e1, ext _ _ e2 codeO_ne⟩
end
/-- what a lambda's making asks: mk, the lambda by its code object -/
def tLamK (T : List (Addr × Str)) (mk : Addr → LF) : TE := fun σ H Q => Tabs T H ∧ ∀ f c' H1, ExtN H H1 → Tabs T H1 → (∀ b, H1 b = none → H b = none) → H f = none → H1 f = some (LamO f (mk c')) → H1 c' = some (CodeO c' (mk c').qual) → Q (.ref f) H1
abbrev lamOf (X : Cx) (params : Arguments) (body : Expr) (scope : Scope) (c' : Addr) : LF := ⟨X.env.qual ++ "<lambda>", params, body, scope, cloFrom X.env.cells scope.names [], c'⟩
theorem none_upd {H : Hp} {a b : Addr} {o : HO} (h : upd H a o b = none) : H b = none := by
  by_cases e : b = a
  · rw [e, upd_same] at h
    cases h
  · rw [upd_ne e] at h
    exact h
theorem pe_lamK {X : Cx} {T : List (Addr × Str)} {c P : Addr} {params : Arguments} {body : Expr} {scope : Scope} {pos : Pos} (TB : TabB X.base X.mg c P) (hcode : X.env.code = .ref c) (hm : (P, lamName X) ∈ T) (hu : ∀ p ∈ T, p.1 = P → p.2 = lamName X)
    (hdef : defaultsOf params X.env = ([], [])) (L : LamS X.env.scope scope) : PE X (.Lambda params body scope pos) (tLamK T (lamOf X params body scope)) := by
  constructor
  rintro pins s σ H Q I ⟨hT, q⟩
  apply PySem.W.kla_eval hdef
  obtain ⟨ps, hP, ht, ha⟩ := hT _ hm
  have atB : s.heap.BuiltinsAt X.mg P := TB.bm.keeps I.bk
  have atP : s.heap.get? P = some { cls := .none, data := .fields ps } := I.hok P _ hP
  have clos := closure_ok (L.has I.ok)
  -- once the code object is known
  have fin : ∀ (c' : Addr) (ctv pm : Value) (h' : Heap) (t : Nat) (H1 : Hp), Inv X pins σ H1 { s with heap := h', toks := t } → ExtN H H1 → Tabs T H1 → (∀ b, H1 b = none → H b = none) → s.heap.objs.size ≤ h'.objs.size → H1 c' = some (CodeO c' (lamName X)) →
      EP X pins σ Q (.ref h'.objs.size) { s with heap := h'.push (PySem.W.kla_obj "<lambda>" (lamName X) params body scope (cloFrom X.env.cells scope.names []) pm c' ctv), toks := t } := fun c' ctv pm h' t H1 J e T1 fr sz hc => by
    have nF : H1 h'.objs.size = none := J.hok.fresh (Nat.le_refl _)
    refine ⟨.ref h'.objs.size, _, lam_put (F := lamOf X params body scope c') J, rfl, q h'.objs.size c' _ (fun b o z n => ?_) (T1.ext fun b o z => ?_) (fun b z => fr b (none_upd z)) (I.hok.fresh sz) upd_same ?_⟩
    · have z1 := e b o z n
      rw [upd_ne (ne_of_none z1 nF)]
      exact z1
    · rw [upd_ne (ne_of_none z nF)]
      exact z
    · rw [upd_ne (ne_of_none hc nF)]
      exact hc
  cases hit : codeAmong pos ps.toList with
  | some cv =>
    obtain ⟨c', rfl, hco⟩ := ha pos cv hit
    apply PySem.W.kla_makeFunctionHit (mg := X.mg) (c := c) (P := P) (ps := ps) clos I.ok.glob (I.mod.glob.keeps I.bk) hcode (TB.code.keeps I.bk) atP ht hit atB
    intro ctv h' t stay sz
    exact fin c' ctv _ h' t H (I.kept stay) (ExtN.refl H) hT (fun _ z => z) sz hco
  | none =>
    apply PySem.W.kla_makeFunction (mg := X.mg) (c := c) (P := P) (ps := ps) clos I.ok.glob (I.mod.glob.keeps I.bk) hcode (TB.code.keeps I.bk) atP ht hit TB.gP atB
    intro c' ctv h' t stay ge lt rec_ tab
    obtain ⟨c2, oc, vs, tk, e2, hoc, hd, hv⟩ := rec_
    cases e2
    have nC : H c' = none := I.hok.fresh ge
    obtain ⟨T1, ext⟩ := tabs_more (pos := pos) hT hm hu hP nC
    have J := inv_table (t' := t) (more := #[rawInt pos.line, rawInt pos.col, .ref c']) (h' := h') I hP (fun b o hb e => stay b o hb e) tab ge ⟨oc, vs, tk, hoc, hd, hv⟩
    exact fin c' ctv _ h' t _ J ext T1 (fun b z => none_upd (none_upd z)) (Nat.le_trans ge (Nat.le_of_lt lt)) upd_same
end G

namespace G
open PySem PySem.Spec PyProof.Rows L2 LamX NdefX

/-! ### what is known of a lambda -/
section
variable (P : Program) (w : World) (K : PySem.W.Frag) (mg : Str → Option Value) (base : Heap)
/-- its call, in any state in which its cells hold ws, does what tl reads -/
def LamB (k : Nat) (f : Addr) (F : LF) (fr : List Str) (ws : List (Option V)) (tl : XK → Hp → VK → Prop) : Prop :=
  ∀ (A : Around) (outer : List Env) (s : Shared) (H : Hp) (E : XK) (Q : VK), Room k A → Env0 P w K mg base A outer s H → H f = some (LamO f F) → H F.c = some (CodeO F.c F.qual) → CellsAt F.cl fr ws s.heap H → tl E H Q →
    codeAny (model P w) A (.call (.ref f) ⟨[], []⟩) (CR (L2.CX P w) outer P w H s Q E) s
/-- a def whose first argument is a lambda that it calls: spc, from what the lambda's call does; d: how much deeper than the lambda -/
structure FnC (CX : CXT) (d : Nat) (g : Addr) (fd : FuncData) (ps : List Str) (spc : (XK → Hp → VK → Prop) → Sp) : Prop where
  len : ∀ tl vs H Q E, spc tl vs H Q E → vs.length = ps.length
  run : ∀ (A : Around) (outer : List Env) (s : Shared) (H : Hp) (args : Args) (us : List Value) (vs : List V) (Q : VK) (E : XK) (f : Addr) (F : LF) (fr : List Str) (ws : List (Option V)) (k : Nat) (tl : XK → Hp → VK → Prop),
    Quiet A → Room (k + d) A → Env0 P w K mg base A outer s H → BindsTo s fd args (ps.zip us) → Vals vs us → vs.head? = some (.ref f) → H f = some (LamO f F) → H F.c = some (CodeO F.c F.qual) → CellsAt F.cl fr ws s.heap H →
    (∀ y c, F.cl.lookup y = some c → c ∉ frs outer) → LamB P w K mg base k f F fr ws tl → spc tl vs H Q E → codeAny (model P w) A (.call (.ref g) args) (CR CX outer P w H s Q E) s
end
section
variable {P : Program} {w : World} {K : PySem.W.Frag} {mg : Str → Option Value} {base : Heap}
theorem LamB.mono {j k : Nat} {f : Addr} {F : LF} {fr : List Str} {ws : List (Option V)} {tl : XK → Hp → VK → Prop} (L : LamB P w K mg base j f F fr ws tl) (h : j ≤ k) : LamB P w K mg base k f F fr ws tl :=
  fun A outer s H E Q hr => L A outer s H E Q (hr.mono h)
theorem lamB_of {k : Nat} {f : Addr} {F : LF} {fr : List Str} {ws : List (Option V)} {tb : XK → TE} (S : NScope fr [] fr F.scope) (nb : ∀ pm ctv : Value, bindArgs (PySem.W.kla_fn "<lambda>" F.qual F.params F.body F.scope F.cl pm (.ref F.c) ctv) ⟨[], []⟩ = pure [])
    (bd : ∀ (A : Around) (outer : List Env) (s : Shared) (H : Hp) (E : XK), Room k (A.deeper (envF F.nf f s.heap.objs.size)) → PE (ncx (L2.CX P w) P w K mg base fr F.nf f A outer s H E) F.body (tb E)) :
    LamB P w K mg base (k + 1) f F fr ws (fun E H Q => tb E ws H Q) := by
  intro A outer s H E Q hr e0 hf hc C ht
  have lim : s.heap.NoLimit := e0.mod.nolimit.keeps fun b o e => (e0.bs b o e).1
  obtain ⟨pm, ctv, ho⟩ := lamO_at e0.hok hf
  apply PySem.W.kla_callFunE hr.depth ho rfl S.co S.gen rfl (codeO_at e0.hok hc)
  rw [nb]
  apply wpAny_pure
  apply wpAny_newFunctionEnv S.nocell (fun y hy => nomatch (show y ∈ ([] : List (Str × Value)) from hy)) _ S.kind
  intro h₁ hns hsb
  refine ⟨lim.fresh _ hsb, ?_⟩
  have kp : ∀ b o, s.heap.get? b = some o → h₁.get? b = some o := fun b o e => hsb.extBut b o (Nat.ne_of_lt (Heap.lt_size e)) (Heap.get?_push_of_some _ e)
  have J := inv_startN (CX := L2.CX P w) (N := fr) (F := F.nf) (f := f) (E := E) (us := []) (vs := []) (tk := s.toks + ([] : List (Str × Value)).length) S hr.hd e0 rfl .nil C hns kp
  have st : startF fr [] ws = ws := by
    unfold startF
    rw [C.len, List.map_nil, List.nil_append, List.length_nil, Nat.sub_zero, Nat.sub_self, List.replicate_zero, List.append_nil]
  rw [st] at J
  apply PySem.W.kla_codeExpr
  apply wpAny_mono ((bd A outer s H E (hr.deeper _)).run [] _ ws H Q J ht)
  · rintro v s' ⟨v', H', J', rv, q⟩
    exact ⟨v', H', J'.os, J'.bare, J'.base, J'.hok, rv, q⟩
  · exact fun _ _ z => z
/-- a def's body, from what is known of the lambda at its entry -/
theorem fnC_of {CX : CXT} {d : Nat} {g : Addr} {name qual : Str} {params : Arguments} {body : List Stmt} {scope : Scope} {kV doc pm cdv ct oc : Value} {an od : Option Addr} {osl : Array (Option Value)} {N ps : List Str} {spc : (XK → Hp → VK → Prop) → Sp}
    (lk : K.lookup g = some ⟨oc, od, .func (PySem.W.fnOf name qual params body scope .none kV doc pm an cdv ct), osl⟩) (hcd : PySem.W.codeIn K cdv qual = true) (S : FnScope N ps scope) (len : ∀ tl vs H Q E, spc tl vs H Q E → vs.length = ps.length)
    (body_ok : ∀ (A : Around) (outer : List Env) (s : Shared) (H : Hp) (vs : List V) (Q : VK) (E : XK) (f : Addr) (F : LF) (fr : List Str) (ws : List (Option V)) (k : Nat) (tl : XK → Hp → VK → Prop), Quiet A → Room (k + d) (A.deeper (envOfC qual scope s.heap.objs.size g cdv)) →
      vs.head? = some (.ref f) → H f = some (LamO f F) → H F.c = some (CodeO F.c F.qual) → CellsAt F.cl fr ws s.heap H → (∀ y c, F.cl.lookup y = some c → c ∉ frs outer) → LamB P w K mg base k f F fr ws tl → spc tl vs H Q E →
      ∃ t, PSs (cxOf CX P w K mg base N qual scope g cdv A outer s H E) body t ∧ t { nx := fun _ H' => Q .non H', rt := Q } (L2.start N vs) H) :
    FnC P w K mg base CX (d + 1) g (PySem.W.fnOf name qual params body scope .none kV doc pm an cdv ct) ps spc := by
  refine ⟨len, fun A outer s H args us vs Q E f F fr ws k tl hq hr e0 hb r h1 h2 h3 C nf L hsp => ?_⟩
  exact run_ofS lk hcd S (show Room (k + d + 1) A from hr) e0 hb r (len _ _ _ _ _ hsp) fun hr' => body_ok A outer s H vs Q E f F fr ws k tl hq hr' h1 h2 h3 C nf L hsp
end
section
variable {Z : Cx} {pins : List (Addr × Obj)} {σ : L2.St} {H : Hp} {s : Shared}
/-- cells that were there at the entry are none of the running frames -/
theorem stack_free {cl : List (Str × Addr)} {fr : List Str} {ws : List (Option V)} (ok : Z.Ok) (C : CellsAt cl fr ws Z.s_0.heap Z.H_0) (nf : ∀ y c, cl.lookup y = some c → c ∉ Z.fs) : ∀ y c, cl.lookup y = some c → c ∉ frs Z.stack := by
  intro y c e hm
  rcases ok.stk with z | ⟨z, zf⟩
  · rw [z] at hm
    exact nf y c e hm
  · rw [z] at hm
    unfold frs at hm
    rw [List.filterMap_cons, zf] at hm
    rcases List.mem_cons.mp hm with r | r
    · obtain ⟨_, v, q⟩ := C.all y c e
      have h1 := q.lt
      rw [r] at h1
      exact Nat.lt_irrefl _ (Nat.lt_of_lt_of_le h1 ok.above)
    · exact nf y c e r
/-- a def's own cells are none of the running frames -/
theorem own_free (I : Inv Z pins σ H s) (fn : ∀ y c, Z.env.cells.lookup y = some c → Z.fn y = true) : ∀ y c, Z.env.cells.lookup y = some c → c ∉ frs Z.stack := by
  have old : ∀ y c, Z.env.cells.lookup y = some c → c ∉ Z.fs := fun y c e hm => by
    obtain ⟨_, o, ho, _⟩ := I.ok.funs.mem hm
    exact Nat.lt_irrefl _ (Nat.lt_of_lt_of_le (Heap.lt_size ho) (I.ok.cab y c (fn y c e) e))
  intro y c e hm
  rcases I.ok.stk with z | ⟨z, zf⟩
  · rw [z] at hm
    exact old y c e hm
  · rw [z] at hm
    unfold frs at hm
    rw [List.filterMap_cons, zf] at hm
    rcases List.mem_cons.mp hm with r | r
    · obtain ⟨v, o, ho, hd⟩ := I.cell y c e
      obtain ⟨m, ⟨o', es, ep, ho', hd', _⟩, _⟩ := I.loc
      rw [r, ho'] at ho
      cases ho
      rw [hd] at hd'
      cases hd'
    · exact old y c e r
end
end G

namespace G
open PySem PySem.Spec PyProof.Rows L2 LamX NdefX

/-! ### calls of lambdas that are known, and of defs that call them -/
/-- a(), in a def's body that got the lambda; it is known at the entry -/
theorem pe_callL {Y : Cx} {W : WX} {f : Addr} {F : LF} {fr : List Str} {ws : List (Option V)} {k i : Nat} {tl : XK → Hp → VK → Prop} {a : Str} {p1 p2 : Pos} (tk : Takes Y W) (hr : Room k Y.A) (C : CellsAt F.cl fr ws Y.s_0.heap Y.H_0)
    (nf : ∀ y c, F.cl.lookup y = some c → c ∉ Y.fs) (hx : Y.ex = []) (L : LamB Y.prog Y.w Y.K Y.mg Y.base k f F fr ws tl) (hN : Y.N[i]? = some a) (hv : Vis Y.env.scope a) (hd : (a == ("__debug__" : Str)) = false := by decide) (hcd : (a == ("__classdict__" : Str)) = false := by decide) :
    PE Y (.Call (.Name a p1) [] [] p2) (fun σ H Q => σ[i]? = some (some (.ref f)) ∧ H f = some (LamO f F) ∧ H F.c = some (CodeO F.c F.qual) ∧ tl (fun cls d H' => W cls d σ H') H Q) := by
  constructor
  rintro pZ sZ σZ HZ Q IZ ⟨hs, hf, hc, ht⟩
  apply wpAny_Call_Name_kw
  apply thn ((pe_var (pos := p1) (i := i) hN hv hd hcd).run pZ sZ σZ HZ (fun v H1 => v = .ref f ∧ H1 = HZ) IZ ⟨.ref f, hs, rfl, rfl⟩)
  rintro u s1 ⟨v, H1, I1, r1, rfl, rfl⟩
  obtain rfl : u = Value.ref f := r1
  obtain ⟨pm, ctv, of1⟩ := lamO_at I1.hok hf
  apply PySem.W.callWith_F0 ⟨_, _, _, _, of1⟩
  have C1 := C.later nf (fun y c e => by rw [hx]; exact fun z => nomatch z) I1
  have rc := L Y.A Y.stack s1 H1 (fun cls d H' => W cls d σZ H') Q hr I1.env0 hf hc C1 ht
  apply wpAny_call
  apply codeAny_mono rc
  intro r s' hq
  match r, hq with
  | .error e, hq => exact passAt tk σZ pZ H1 s1 e s' I1 hq
  | .ok .next, hq => exact hq.elim
  | .ok .brk, hq => exact hq.elim
  | .ok .cont, hq => exact hq.elim
  | .ok (.ret w), hq => exact I1.after hq
/-- what is known of the lambdas that R tells -/
def Known (Z : Cx) (d : Nat) (R : L2.St → Addr → LF → (XK → Hp → VK → Prop) → Prop) : Prop := ∀ (pins : List (Addr × Obj)) (σ : L2.St) (H : Hp) (s : Shared) (f : Addr) (F : LF) (tl : XK → Hp → VK → Prop), Inv Z pins σ H s → R σ f F tl →
  ∃ (fr : List Str) (ws : List (Option V)) (k : Nat), Room (k + d) Z.A ∧ CellsAt F.cl fr ws s.heap H ∧ (∀ y c, F.cl.lookup y = some c → c ∉ frs Z.stack) ∧ LamB Z.prog Z.w Z.K Z.mg Z.base k f F fr ws tl
/-- x(look, ..) -/
def tCallC (spc : (XK → Hp → VK → Prop) → Sp) (R : L2.St → Addr → LF → (XK → Hp → VK → Prop) → Prop) (dvs : List V) (E : XK) (t : TA) : TE := fun σ H Q => t σ H fun vs H1 => ∃ f F tl, R σ f F tl ∧ (vs ++ dvs).head? = some (.ref f) ∧ H1 f = some (LamO f F) ∧ H1 F.c = some (CodeO F.c F.qual) ∧ spc tl (vs ++ dvs) H1 Q E
theorem pe_fnC {Z : Cx} {CXg : CXT} {d : Nat} {g : Addr} {fd : FuncData} {ps : List Str} {spc : (XK → Hp → VK → Prop) → Sp} {R : L2.St → Addr → LF → (XK → Hp → VK → Prop) → Prop} {dvs : List V} {ds : List Value} {E : XK} {x : Str} {p pos : Pos} {e : Expr} {es : List Expr} {t : TA}
    (F : FnC Z.prog Z.w Z.K Z.mg Z.base CXg d g fd ps spc) (hq : Quiet Z.A) (hg : Gl Z x) (hm : Z.mg x = some (.ref g)) (hk : PySem.W.keepIn Z.K (.ref g) = true) (hb : Binds Z.K fd ps ds) (hd : Vals dvs ds) (hx : Passes CXg Z E) (ha : PA Z (e :: es) t) (known : Known Z d R)
    (hdb : (x == ("__debug__" : Str)) = false := by decide) (he : starEach (e :: es) Z.env = (false, eval e Z.env) :: starEach es Z.env := by rfl) (hpl : (backTo pos (starEach es Z.env)).any (·.1) = false := by rfl) :
    PE Z (.Call (.Name x p) (e :: es) [] pos) (tCallC spc R dvs E t) := by
  constructor
  intro pins s σ H Q I h
  apply wpAny_Call_Name_kw
  apply ld_glob I hg hm _ hdb
  apply PySem.W.callWith_K (h₀ := Z.base) I.ok.mod.kin hk _ he hpl
  apply thn (ha.run pos pins s σ H _ I h)
  rintro us s1 ⟨vs, H1, I1, r, f, G, tl, hR, hh, hf, hc, q⟩
  refine ⟨I1.kIn, ?_⟩
  obtain ⟨fr, ws, k, hr, C, nf, L⟩ := known pins σ H1 s1 f G tl I1 hR
  have r2 : Vals (vs ++ dvs) (us ++ ds) := r.append hd
  have hl : (us ++ ds).length = ps.length := r2.length.symm.trans (F.len _ _ _ _ _ q)
  apply wpAny_call
  apply codeAny_mono (F.run Z.A Z.stack s1 H1 ⟨us, []⟩ (us ++ ds) (vs ++ dvs) Q E f G fr ws k tl hq hr I1.env0 (hb s1 us I1.kIn hl) r2 hh hf hc C nf L q)
  intro res s' done
  match res, done with
  | .error e, z => exact hx pins σ H1 s1 e s' I1 z
  | .ok (.ret u), z => exact I1.after z
  | .ok .next, z => exact z.elim
  | .ok .brk, z => exact z.elim
  | .ok .cont, z => exact z.elim
/-- a lambda that was got as an argument -/
def RArg (f : Addr) (F : LF) (tl : XK → Hp → VK → Prop) : L2.St → Addr → LF → (XK → Hp → VK → Prop) → Prop := fun _ f' F' tl' => f' = f ∧ F' = F ∧ tl' = tl
theorem known_arg {Z : Cx} {d k : Nat} {f : Addr} {F : LF} {fr : List Str} {ws : List (Option V)} {tl : XK → Hp → VK → Prop} (C : CellsAt F.cl fr ws Z.s_0.heap Z.H_0) (nf : ∀ y c, F.cl.lookup y = some c → c ∉ Z.fs) (hx : Z.ex = []) (L : LamB Z.prog Z.w Z.K Z.mg Z.base k f F fr ws tl)
    (hr : Room (k + d) Z.A) : Known Z d (RArg f F tl) := by
  rintro pins σ H s f' F' tl' I ⟨rfl, rfl, rfl⟩
  exact ⟨fr, ws, k, hr, C.later nf (fun y c e => by rw [hx]; exact fun z => nomatch z) I, stack_free I.ok C nf, L⟩
/-- lambdas that were made here, by their places among the names -/
structure LamD (X : Cx) where
  params : Arguments
  body : Expr
  scope : Scope
  fr : List Str
  js : List Nat
  k : Nat
  tb : XK → TE
/-- what is asked of such a lambda -/
structure LamD.Good {X : Cx} (D : LamD X) : Prop where
  sc : NScope D.fr [] D.fr D.scope
  nb : ∀ (q : Str) (cl : List (Str × Addr)) (pm cv ctv : Value), bindArgs (PySem.W.kla_fn "<lambda>" q D.params D.body D.scope cl pm cv ctv) ⟨[], []⟩ = pure []
  free : ∀ y ∈ D.scope.names, y.2 = .free → X.env.scope.names.lookup y.1 = some .cell ∨ X.env.scope.names.lookup y.1 = some .free
  frm : ∀ y ∈ D.fr, (y, NameKind.free) ∈ D.scope.names
  at_ : D.js.map (fun j => X.N[j]?) = D.fr.map some
  bd : ∀ (f c' : Addr) (A : Around) (outer : List Env) (s : Shared) (H : Hp) (E : XK), Room D.k (A.deeper (envF (lamOf X D.params D.body D.scope c').nf f s.heap.objs.size)) → PE (ncx (L2.CX X.prog X.w) X.prog X.w X.K X.mg X.base D.fr (lamOf X D.params D.body D.scope c').nf f A outer s H E) D.body (D.tb E)
def RMade {X : Cx} (D : LamD X) (σ0 : L2.St) : L2.St → Addr → LF → (XK → Hp → VK → Prop) → Prop := fun _ _ F tl => ∃ c', F = lamOf X D.params D.body D.scope c' ∧ tl = fun E H Q => D.tb E (D.js.map (slotAt σ0)) H Q
def RHere {X : Cx} (D : LamD X) : L2.St → Addr → LF → (XK → Hp → VK → Prop) → Prop := fun σ f F tl => RMade D σ σ f F tl
theorem LamD.lam {X : Cx} {D : LamD X} (g : D.Good) (f c' : Addr) (ws : List (Option V)) : LamB X.prog X.w X.K X.mg X.base (D.k + 1) f (lamOf X D.params D.body D.scope c') D.fr ws (fun E H Q => D.tb E ws H Q) :=
  lamB_of (F := lamOf X D.params D.body D.scope c') g.sc (fun pm ctv => g.nb _ _ _ _ _) (fun A outer s H E hr => g.bd f c' A outer s H E hr)
theorem known_here {X : Cx} {D : LamD X} {d : Nat} (g : D.Good) (fn : ∀ y c, X.env.cells.lookup y = some c → X.fn y = true) (hr : Room (D.k + 1 + d) X.A) : Known X d (RHere D) := by
  rintro pins σ H s f F tl I ⟨c', rfl, rfl⟩
  have cp : Caps X (cloFrom X.env.cells D.scope.names []) D.fr D.js := Caps.made I.ok g.free g.frm g.at_
  exact ⟨D.fr, _, D.k + 1, hr, cells_of I cp, fun y c e => own_free I fn y c (cp.sub y c e), D.lam g f c' _⟩
theorem known_blk {X : Cx} {pins : List (Addr × Obj)} {σ : L2.St} {H : Hp} {s : Shared} {scope : Scope} {cenv : Env} {fp : List Addr} {d : Nat} {Ds : List (LamD X)} (I : Inv X pins σ H s) (hf : ∀ b ∈ fp, FpOk X pins H b) (g : ∀ D ∈ Ds, D.Good) (fn : ∀ y c, X.env.cells.lookup y = some c → X.fn y = true)
    (hr : ∀ D ∈ Ds, Room (D.k + 1 + d) X.A) : Known (X.blk s H scope cenv fp) d (fun σ' f F tl => ∃ D ∈ Ds, RMade D σ σ' f F tl) := by
  rintro pins' σ' H' s' f F tl I' ⟨D, hD, c', rfl, rfl⟩
  have gd := g D hD
  have cp : Caps X (cloFrom X.env.cells D.scope.names []) D.fr D.js := Caps.made I.ok gd.free gd.frm gd.at_
  have C : CellsAt (cloFrom X.env.cells D.scope.names []) D.fr (D.js.map (slotAt σ)) s.heap H := cells_of I cp
  have nf : ∀ y c, (cloFrom X.env.cells D.scope.names []).lookup y = some c → c ∉ frs X.stack := fun y c e => own_free I fn y c (cp.sub y c e)
  refine ⟨D.fr, _, D.k + 1, hr D hD, CellsAt.later (X := X.blk s H scope cenv fp) C nf (fun y c e hm => ?_) I', ?_, D.lam gd f c' _⟩
  · exact (hf c hm).2.2.2.2.1 y c (cp.sub y c e) rfl
  · exact stack_free (Z := X.blk s H scope cenv fp) I'.ok C nf
end G

namespace G
open PySem PySem.Spec PyProof.Rows L2

/-! ### == and != by an own __eq__, whatever stands on the right -/
section
variable {prog : Program} {w : World} {A : Around} {E : Value → Shared → Prop} {s : Shared} {K : PySem.W.Frag} {x C L f : Addr} {h₀ : Heap} {m : Str → Option Value} {ox : Obj} {od : Option Obj} {b tb : Value}
theorem ifBound_ne {M : Model} {args : List Value} {Q : Option Value → Shared → Prop} (X : K.In s.heap) (I : PySem.W.InstAt s.heap x ox C od) (hs : PySem.W.findIn K (.ref C) "__ne__" = some (some (.builtin "object.__ne__")))
    (h : wpAny M A (call (.builtin "object.__ne__") (.ref x :: args)) (fun v => Q (some v)) E s) : wpAny M A (callSpecialIfBound? (.ref x) "__ne__" args) Q E s := by
  simp only [callSpecialIfBound?, bindSpecialIfBound?]
  refine wpAny_holding (wpAny_bind (wpAny_bind (wpAny_bind (I.type.here ((PySem.W.looks_findIn X hs).here ?_)))))
  refine wpAny_bind (wpAny_askSetting (wpAny_ite ?_))
  have fin : wpAny M A (call (.builtin "object.__ne__") ([.ref x] ++ args) >>= fun v => pure (some v)) Q E s := wpAny_bind (wpAny_mono h (fun v s' h' => wpAny_pure h') fun _ _ h' => h')
  have bd : bindSpecial (.builtin "object.__ne__") (.ref x) = pure (.builtin "object.__ne__", [.ref x]) := PySem.F.cmp_object.ne.bind _
  rw [bd]
  split
  · exact wpAny_bind (wpAny_pure (wpAny_pure (by exact fin)))
  · exact wpAny_tryCatch (wpAny_bind (wpAny_pure (wpAny_pure (by exact fin))))
theorem ne_entry {Q : Fin → Shared → Prop} (X : K.In s.heap) (I : PySem.W.InstAt s.heap x ox C od) (hs : PySem.W.findIn K (.ref C) "__eq__" = some (some (.ref f))) (hf : PySem.W.isFn K (.ref f) = true) (hu : A.units < cLine)
    (hcall : wpAny (model prog w) A (call (.ref f) [.ref x, b]) (fun v s' => ∃ r, v = .bool r ∧ Q (.done (.ret (.bool (!r)))) s') E s) :
    wpAny (model prog w) A (Builtin.«object.__ne__» ⟨[.ref x, b], []⟩) Q E s := by
  unfold Builtin.«object.__ne__»
  repeat (first
    | with_reducible refine wpAny_cRoomFor hu ?_
    | (refine wpAny_bind (m := callSpecialIfBound? (.ref x) (Str.ofString "__eq__") [b])
        (PySem.W.ifBound_K X I hs hf (wpAny_mono hcall (fun r s' hr => by
          obtain ⟨b, rfl, hq⟩ := hr
          repeat (first | exact hq | exact wpAny_pure hq | exact wpAny_truthy_bool hq | (refine wpAny_bind (m := truthy (.bool _)) (wpAny_truthy_bool ?_)) | wp_step)) fun _ _ e => e)))
    | wp_step)
theorem ne_K {Q : Value → Shared → Prop} (hu : A.units + 1 < cLine) (F : Fr h₀ L s.heap m) (X₀ : K.In h₀) (I : PySem.W.InstAt s.heap x ox C od) (hb : PySem.W.Looks (model prog w) s.heap (typeOf b) tb) (hn : PySem.W.notFirst K C tb = true)
    (hs : PySem.W.findIn K (.ref C) "__eq__" = some (some (.ref f))) (hf : PySem.W.isFn K (.ref f) = true) (hne : PySem.W.findIn K (.ref C) "__ne__" = some (some (.builtin "object.__ne__"))) (hm : PySem.W.mroIn K C (.type "object") = some true)
    (h : wpAny (model prog w) A.in1 (call (.ref f) [.ref x, b]) (fun v s' => ∃ r, v = .bool r ∧ Q (.bool (!r)) s') E s) : wpAny (model prog w) A (richCompare .NotEq (.ref x) b) Q E s := by
  have X := X₀.keeps F.keep
  have sub : PySem.W.Looks (model prog w) s.heap (isInstance (.ref x) (.type "object")) true := I.type.andThen (PySem.W.looks_mroIn X hm)
  have one : wpAny (model prog w) A (tryCompare (.ref x) (cmpInfo .NotEq).2.1 b) (fun r s' => ∃ v, r = some v ∧ Q v s') E s := by
    unfold tryCompare
    refine wpAny_bind (ifBound_ne X I hne (wpAny_call (codeAny_call_builtin PySem.F.cmp_object.ne.plain PySem.F.cmpEntry_ne
      (@PySem.W.check_slot (model prog w) _ _ s "object.__ne__" "object" "__ne__" (.ref x) [b] [] _ PySem.F.cmpKind_ne PySem.F.cmpSplit_ne sub (PySem.F.cmpArgs_ne _ _) ?_))))
    refine ne_entry (A := A.in1) X I hs hf hu (wpAny_mono h (fun v s' hv => ?_) fun _ _ e => e)
    obtain ⟨r, rfl, hq⟩ := hv
    exact ⟨r, rfl, wpAny_pure ⟨_, rfl, hq⟩⟩
  unfold richCompare
  simp only [oneThing_ref]
  refine wpAny_holding (wpAny_bind (wpAny_cRoomFor (Nat.lt_of_succ_lt hu) ?_))
  refine wpAny_bind (I.type.here (wpAny_bind (hb.here ?_)))
  split
  · rename_i q
    have e : PySem.W.subIn K tb (.ref C) = some false := by
      rcases Bool.or_eq_true_iff.mp hn with e | e
      · rw [beq_iff_eq.mp e] at q; simp at q
      · exact beq_iff_eq.mp e
    refine wpAny_bind ((PySem.W.looks_subIn X e).here ?_)
    simp only [Bool.false_eq_true, if_false]
    refine wpAny_bind (wpAny_mono one (fun r s' z => ?_) fun _ _ e => e)
    obtain ⟨v, rfl, hq⟩ := z
    exact wpAny_pure hq
  · refine wpAny_bind (wpAny_pure ?_)
    simp only [Bool.false_eq_true, if_false]
    refine wpAny_bind (wpAny_mono one (fun r s' z => ?_) fun _ _ e => e)
    obtain ⟨v, rfl, hq⟩ := z
    exact wpAny_pure hq
end
/-- what stands on the right, with its type -/
inductive RTy (H : Hp) : V → Value → Prop
  | int (i : Int) : RTy H (.int i) (.type "int")
  | str (z : Str) : RTy H (.str z) (.type "str")
  | ins {b C dx : Addr} {fs : List (Str × V)} (h : H b = some (.ins C dx fs)) : RTy H (.ref b) (.ref C)
  | tup {b : Addr} {xs : List V} (h : H b = some (.tup xs)) : RTy H (.ref b) (.type "tuple")
/-- the class's own __eq__, and no __ne__ of its own -/
structure EqC (K : PySem.W.Frag) (C f : Addr) : Prop where
  at_ : PySem.W.findIn K (.ref C) "__eq__" = some (some (.ref f))
  fn : PySem.W.isFn K (.ref f) = true
  ne : PySem.W.findIn K (.ref C) "__ne__" = some (some (.builtin "object.__ne__"))
  ob : PySem.W.mroIn K C (.type "object") = some true
  nf : ∀ t : String, (t == "int" || t == "str" || t == "tuple") = true → PySem.W.notFirst K C (.type t) = true
section
variable {X : Cx} {CX : CXT} {C f : Addr} {n : Nat} {sp : Sp} {E : XK} {fd : FuncData} {ps : List Str}
theorem rty_looks {pins : List (Addr × Obj)} {σ : L2.St} {H : Hp} {s : Shared} {y : V} {u t : Value} (I : Inv X pins σ H s) (r : L2.RelV y u) (h : RTy H y t) : PySem.W.Looks (model X.prog X.w) s.heap (typeOf u) t := by
  cases h with
  | int i =>
    obtain ⟨k, rfl⟩ := (show ∃ t, u = Value.int i t from r)
    exact PySem.W.Looks.of_pure rfl
  | str z =>
    obtain ⟨k, rfl⟩ := (show ∃ t, u = Value.str z t from r)
    exact PySem.W.Looks.of_pure rfl
  | ins h =>
    cases (show u = Value.ref _ from r)
    obtain ⟨od, mA, J, _⟩ := ins_inst I h
    exact J.type
  | tup h =>
    cases (show u = Value.ref _ from r)
    obtain ⟨_, its, rv, ob, e, c⟩ := I.hok _ _ h
    exact fun A Q E s k q => wpAny_typeOf_ref (k _ _ e) (by rw [c.1]; exact q)
/-- x op y, op == or != -/
def rEqK (C : Addr) (K : PySem.W.Frag) (sp : Sp) (E : XK) : R2 := fun x y H Q => ∃ a dx fs t, x = .ref a ∧ H a = some (.ins C dx fs) ∧ RTy H y t ∧ PySem.W.notFirst K C t = true ∧ sp [x, y] H Q E
def rNeK (C : Addr) (K : PySem.W.Frag) (sp : Sp) (E : XK) : R2 := fun x y H Q => ∃ a dx fs t, x = .ref a ∧ H a = some (.ins C dx fs) ∧ RTy H y t ∧ PySem.W.notFirst K C t = true ∧ sp [x, y] H (fun v H' => ∃ b, v = .bl b ∧ Q (.bl (!b)) H') E
theorem op_eqK (O : EqC X.K C f) (F : FnR X.prog X.w X.K X.mg X.base CX n f sp) (hr : Room n X.A) (hx : Passes CX X E) : OpR X (compareOp .Eq) (rEqK C X.K sp E) := by
  intro pins s σ H x y v u Q I rx ry h
  obtain ⟨a, dx, fs, t, rfl, ha, hy, nf, q⟩ := h
  cases (show v = Value.ref a from rx)
  obtain ⟨od, mA, J, _⟩ := ins_inst I ha
  obtain ⟨m, hF⟩ := I.fr
  show wpAny _ _ (richCompare .Eq _ _) _ _ _
  refine PySem.W.cmp_K (op := .Eq) (tb := t) hr.units0 hF I.ok.mod.kin J (rty_looks I ry hy) nf O.at_ O.fn ?_
  refine wpAny_mono (wpAny_call (run_fnR (us := [.ref a, u]) (vs := [.ref a, y]) F hr hx I (.cons rfl (.cons ry .nil)) q)) (fun w s' z => ?_) fun _ _ x => x
  obtain ⟨z', H', I', rz, qz⟩ := z
  exact SlX.cmpback rz ⟨z', H', I', rz, qz⟩
theorem op_neK (O : EqC X.K C f) (F : FnOk X.prog X.w X.K X.mg X.base CX n f fd ps sp) (hb : Binds X.K fd ps []) (hr : Room (n + 1) X.A) (hx : Passes CX X E) : OpR X (compareOp .NotEq) (rNeK C X.K sp E) := by
  intro pins s σ H x y v u Q I rx ry h
  obtain ⟨a, dx, fs, t, rfl, ha, hy, nf, q⟩ := h
  cases (show v = Value.ref a from rx)
  obtain ⟨od, mA, J, _⟩ := ins_inst I ha
  obtain ⟨m, hF⟩ := I.fr
  show wpAny _ _ (richCompare .NotEq _ _) _ _ _
  refine ne_K (tb := t) (by have := hr.un; omega) hF I.ok.mod.kin J (rty_looks I ry hy) nf O.at_ O.fn O.ne O.ob ?_
  have e0 : Env0 X.prog X.w X.K X.mg X.base X.A.in1 X.stack s H := by
    have e := I.env0
    exact ⟨e.frames, e.mod, e.bs, e.bsz, e.funs, e.frf, e.hok, e.bare⟩
  have hl := F.len _ _ _ _ q
  have r2 : Vals [V.ref a, y] [Value.ref a, u] := .cons rfl (.cons ry .nil)
  refine wpAny_call (codeAny_mono (F.run X.A.in1 X.stack s H ⟨[.ref a, u], []⟩ [.ref a, u] [.ref a, y] _ E hr.in1 e0 (by
    have := hb s [.ref a, u] I.kIn (by simpa using hl)
    simpa using this) r2 q) fun r s' hq => ?_)
  cases r with
  | error e => exact hx pins σ H s e s' I hq
  | ok fl =>
    cases fl with
    | ret w =>
      obtain ⟨z, H', I', rz, b, rfl, qz⟩ := I.after hq
      obtain rfl : w = Value.bool b := rz
      exact ⟨b, rfl, .bl (!b), H', I', rfl, qz⟩
    | next => exact False.elim hq
    | brk => exact False.elim hq
    | cont => exact False.elim hq
end
end G
namespace L2
open PySem PySem.Spec PyProof.Rows
theorem FunD.okX {P : Program} {w : World} {K : PySem.W.Frag} {mg : Str → Option Value} {base : Heap} {x qual : Str} {params : Arguments} {body : List Stmt} {scope : Scope} {dvs : List V} {kws : List (Str × V)} {f : Addr} {fd : FuncData} {N ps : List Str} {k : Nat} {sp : Sp}
    (F : FunD K x qual params body scope dvs kws f fd) (S : FnScope N ps scope) (len : ∀ vs H Q E, sp vs H Q E → vs.length = ps.length)
    (hbody : ∀ (cdv : Value) (A : Around) (outer : List Env) (s : Shared) (H : Hp) (vs : List V) (Q : VK) (E : XK), Room k (A.deeper (envOfC qual scope s.heap.objs.size f cdv)) → sp vs H Q E →
      ∃ t, PSs (cxOf (L2.CX P w) P w K mg base N qual scope f cdv A outer s H E) body t ∧ t { nx := fun _ H' => Q .non H', rt := Q } (start N vs) H) : FnOk P w K mg base (L2.CX P w) (k + 1) f fd ps sp :=
  F.ok S len hbody
end L2

namespace G
open PySem PySem.Spec PyProof.Rows L2

/-! ### zip of a tuple and a list, in either sequence -/
inductive SqKind | li | tu
def SqOf (K : PySem.W.Frag) : SqKind → Hp → Addr → List V → Prop
  | .li => SqL K
  | .tu => SqT K
def ObOf : SqKind → Heap → Addr → Array Value → Prop
  | .li => Heap.IsList
  | .tu => Heap.IsTuple
def ItOf : SqKind → Heap → Addr → Addr → Nat → Prop
  | .li => Heap.IsListIter
  | .tu => Heap.IsTupleIter
def newIt (k : SqKind) (a : Addr) : Obj := match k with
  | .li => { cls := .type "list_iterator", data := .fields #[.ref a, .int 0 0] }
  | .tu => { cls := .type "tuple_iterator", data := .fields #[.ref a, .int 0 0] }
theorem draw (k : SqKind) {prog : Program} {w : World} {A : Around} (hh : A.handled = none) (it a : Addr) (ne : a ≠ it) (its : Array Value) :
    Draws prog w A it [it, a] its.size (fun i v => its[i]? = some v) (fun i h => ItOf k h it a i ∧ ObOf k h a its) := by
  cases k
  · exact Draws.list hh it a ne its
  · exact Draws.tuple hh it a ne its
theorem begin_ (k : SqKind) (a : Addr) (its : Array Value) : Begins (.ref a) (newIt k a) fun h => ObOf k h a its := by
  cases k
  · exact begins_list a its
  · exact begins_tuple a its
theorem SqOf.ob {K : PySem.W.Frag} {k : SqKind} {X : Cx} {pins : List (Addr × Obj)} {σ : L2.St} {H : Hp} {s : Shared} {a : Addr} {xs : List V} (I : Inv X pins σ H s) (hK : X.K = K) (h : SqOf K k H a xs) :
    ∃ its, Vals xs its ∧ ObOf k s.heap a its.toArray ∧ a < s.heap.objs.size := by
  subst hK
  cases k
  · obtain ⟨its, rv, p, _⟩ := I.list h
    exact ⟨its, rv, p.isList, p.lt⟩
  · obtain ⟨its, rv, p, _⟩ := I.tuple h
    obtain ⟨o, ho, _⟩ := id p
    exact ⟨its, rv, p, Heap.lt_size ho⟩
theorem SqOf.inj {K : PySem.W.Frag} {k : SqKind} {X : Cx} {pins : List (Addr × Obj)} {σ : L2.St} {H : Hp} {s : Shared} {a : Addr} {xs ys : List V} (I : Inv X pins σ H s) (hK : X.K = K) (h : SqOf K k H a xs) (g : SqOf K k H a ys) : xs = ys := by
  subst hK
  cases k
  · exact I.list_inj h g
  · exact I.tuple_inj h g
theorem itOf_at {k : SqKind} {h h' : Heap} {it a : Addr} {i : Nat} (x : ItOf k h it a i) (e : ∀ o, h.get? it = some o → h'.get? it = some o) : ItOf k h' it a i := by
  cases k
  · exact Heap.IsListIter.at x e
  · exact Heap.IsTupleIter.at x e
theorem itOf_obj {k : SqKind} {h : Heap} {it a : Addr} {i : Nat} (x : ItOf k h it a i) : ∃ o, h.get? it = some o ∧ ∀ v, o.data ≠ .cell v := by
  cases k
  all_goals
    obtain ⟨o, ho, _, hd⟩ := x
    exact ⟨o, ho, fun v z => by rw [hd] at z; cases z⟩
theorem itOf_new {k : SqKind} {h : Heap} {it a : Addr} (e : h.get? it = some (newIt k a)) : ItOf k h it a 0 := by
  cases k
  all_goals exact ⟨_, e, rfl, rfl⟩
theorem obOf_at {k : SqKind} {h h' : Heap} {a : Addr} {its : Array Value} (x : ObOf k h a its) (e : ∀ o, h.get? a = some o → h'.get? a = some o) : ObOf k h' a its := by
  cases k
  · exact Heap.IsList.at x e
  · exact Heap.IsTuple.at x e
/-- both sequences as they stand at each turn, the items in new pairs -/
def ItM (K : PySem.W.Frag) (k1 k2 : SqKind) (a b : Addr) : It :=
  ⟨fun i H => ∃ (xs ys : List V) (x y : V), SqOf K k1 H a xs ∧ SqOf K k2 H b ys ∧ xs[i]? = some x ∧ ys[i]? = some y,
    fun i H v H' => ∃ T x y, v = .ref T ∧ H T = none ∧ H' = upd H T (.tup [x, y]) ∧ (∀ xs, SqOf K k1 H a xs → xs[i]? = some x) ∧ ∀ ys, SqOf K k2 H b ys → ys[i]? = some y,
    fun i H => ∃ xs ys : List V, SqOf K k1 H a xs ∧ SqOf K k2 H b ys ∧ i ≤ xs.length ∧ i ≤ ys.length ∧ (xs.length = i ∨ ys.length = i)⟩
structure Apart (N a b z TI TO i1 i2 : Addr) : Prop where
  la : a < N
  lb : b < N
  ez : z = N + 4
  eT : TI = N + 2
  eO : TO = N + 3
  e1 : i1 = N
  e2 : i2 = N + 1
theorem Apart.sep {N a b z TI TO i1 i2 : Addr} (h : Apart N a b z TI TO i1 i2) : ZipSep2 z TI TO i1 i2 [i1, a] [i2, b] := by
  obtain ⟨la, lb, rfl, rfl, rfl, rfl, rfl⟩ := h
  have la := Nat.lt_iff_add_one_le.mp la
  have lb := Nat.lt_iff_add_one_le.mp lb
  constructor <;> (try simp only [List.mem_cons, List.not_mem_nil, or_false, ne_eq, true_or, not_or, or_true]) <;> (try constructor) <;> (try (intro z; have z : (_ : Nat) = _ := z; omega))
theorem turn_m {P : Program} {w : World} {K : PySem.W.Frag} {elts : List Expr} {kk : Nat} {tpos : Pos} {k1 k2 : SqKind} {N a b z TI TO i1 i2 : Addr} (D : Apart N a b z TI TO i1 i2) :
    Turn P w K (.Tuple elts kk tpos) (ItM K k1 k2 a b) [z, TI, TO, i1, i2] z (fun i h => IsZip h z TI TO .none ∧ IsTupOf2 h TI (.ref i1) (.ref i2) ∧ (∃ x y, IsTupOf2 h TO x y) ∧ ItOf k1 h i1 a i ∧ ItOf k2 h i2 b i) where
  mem := by simp
  obj := fun i h st c hc => by
    obtain ⟨g1, g2, ⟨x, y, g3⟩, g4, g5⟩ := st
    simp only [List.mem_cons, List.not_mem_nil, or_false] at hc
    rcases hc with q | q | q | q | q <;> rw [q]
    · exact ⟨_, g1, fun v q => nomatch q⟩
    · exact ⟨_, g2, fun v q => nomatch q⟩
    · exact ⟨_, g3, fun v q => nomatch q⟩
    · exact itOf_obj g4
    · exact itOf_obj g5
  keep := fun i h h' st k => by
    obtain ⟨g1, g2, ⟨x, y, g3⟩, g4, g5⟩ := st
    exact ⟨k z (by simp) _ g1, k TI (by simp) _ g2, ⟨x, y, k TO (by simp) _ g3⟩, itOf_at g4 fun o q => k i1 (by simp) o q, itOf_at g5 fun o q => k i2 (by simp) o q⟩
  item := by
    intro X hP hw hK hc i pins s σ H E I hf st hg
    subst hP hw
    obtain ⟨g1, g2, ⟨x0, y0, g3⟩, g4, g5⟩ := st
    obtain ⟨xs, ys, x, y, hqx, hqy, hx, hy⟩ := hg
    obtain ⟨its, rv, p, _⟩ := hqx.ob I hK
    obtain ⟨its2, rv2, p2, _⟩ := hqy.ob I hK
    obtain ⟨u, hu, ru⟩ := rv.get hx
    obtain ⟨u2, hu2, ru2⟩ := rv2.get hy
    have hzl : z < s.heap.objs.size := Heap.lt_size g1
    have S := D.sep
    have lu : i < its.toArray.size := by simpa using (List.getElem?_eq_some_iff.mp hu).1
    have lu2 : i < its2.toArray.size := by simpa using (List.getElem?_eq_some_iff.mp hu2).1
    have hh : X.A.in1.handled = none := I.ok.hd hc
    have n1 : a ≠ i1 := by obtain ⟨la, lb, _, _, _, e1, _⟩ := D; rw [e1]; exact Nat.ne_of_lt la
    have n2 : b ≠ i2 := by obtain ⟨la, lb, _, _, _, _, e2⟩ := D; rw [e2]; exact Nat.ne_of_lt (Nat.lt_succ_of_lt lb)
    refine wpAny_pyNext_zipD2_item S (draw k1 hh i1 a n1 its.toArray) (draw k2 hh i2 b n2 its2.toArray) g1 g2 g3 ⟨g4, p⟩ ⟨g5, p2⟩ lu lu2 fun v1 v2 h' tk ev1 ev2 z' TO' s1' s2' hT hsz hk => ?_
    have ev1 : v1 = u := by
      have z : its.toArray[i]? = some u := by simpa using hu
      rw [z] at ev1
      exact (Option.some.inj ev1).symm
    have ev2 : v2 = u2 := by
      have z : its2.toArray[i]? = some u2 := by simpa using hu2
      rw [z] at ev2
      exact (Option.some.inj ev2).symm
    subst ev1 ev2
    refine ⟨_, rfl, wpAny_letOwnedTupleGo_zip (s := { s with heap := h', toks := tk }) z' fun h'' z'' sb => ?_⟩
    have hT2 : h''.get? s.heap.objs.size = some { cls := .type "tuple", data := .seq #[v1, v2] } := (sb.2 _ (Nat.ne_of_gt hzl)).trans hT
    have new : ObjOk X.prog X.w (upd H s.heap.objs.size (.tup [x, y])) h'' s.heap.objs.size (.tup [x, y]) :=
      ⟨by show 2 ≤ sizeLine; decide, [v1, v2], .cons ru (.cons ru2 .nil), ⟨_, hT2, rfl, _, rfl⟩⟩
    have I1 : Inv X pins σ (upd H s.heap.objs.size (.tup [x, y])) { s with heap := h'', toks := tk } :=
      I.turnedNew (t' := tk) (ch := [z, TI, TO, i1, i2]) (fun c o hb q => (sb.2 c (fun q' => hb (by simp [q']))).trans (hk c o (fun q' => hb (by simp [q'])) (fun q' => hb (by simp [q'])) (fun q' => hb (by simp [q'])) (fun q' => hb (by simp [q'])) q)) hf (Nat.le_refl _) new
    refine ⟨.ref s.heap.objs.size, _, I1, rfl, ⟨_, x, y, rfl, I.hok.fresh (Nat.le_refl _), rfl, fun l hl => by rw [hl.inj I hK hqx]; exact hx, fun l hl => by rw [hl.inj I hK hqy]; exact hy⟩, ⟨z'', ?_, ⟨v1, v2, ?_⟩, ?_, ?_⟩, fun c hcm => ?_⟩
    · exact (sb.2 _ S.TIz).trans (hk _ _ S.TIz S.TITO S.TIi1 S.TIi2 g2)
    · exact (sb.2 _ S.TOz).trans TO'
    · exact itOf_at s1'.1 fun o q => (sb.2 _ S.zi1.symm).trans q
    · exact itOf_at s2'.1 fun o q => (sb.2 _ S.zi2.symm).trans q
    · have hlt : c < s.heap.objs.size := by
        simp only [List.mem_cons, List.not_mem_nil, or_false] at hcm
        rcases hcm with q | q | q | q | q <;> rw [q]
        · exact hzl
        · exact Heap.lt_size g2
        · exact Heap.lt_size g3
        · obtain ⟨_, e, _⟩ := itOf_obj g4; exact Heap.lt_size e
        · obtain ⟨_, e, _⟩ := itOf_obj g5; exact Heap.lt_size e
      rw [upd_ne (Nat.ne_of_lt hlt)]
      exact (hf c hcm).1
  done := by
    intro X hP hw hK hc i pins s σ H E I hf st hg
    subst hP hw
    obtain ⟨g1, g2, ⟨x0, y0, g3⟩, g4, g5⟩ := st
    obtain ⟨xs, ys, hqx, hqy, le1, le2, hend⟩ := hg
    obtain ⟨its, rv, p, _⟩ := hqx.ob I hK
    obtain ⟨its2, rv2, p2, _⟩ := hqy.ob I hK
    have l1 := rv.length
    have l2 := rv2.length
    have S := D.sep
    have hh : X.A.in1.handled = none := I.ok.hd hc
    have n1 : a ≠ i1 := by obtain ⟨la, lb, _, _, _, e1, _⟩ := D; rw [e1]; exact Nat.ne_of_lt la
    have n2 : b ≠ i2 := by obtain ⟨la, lb, _, _, _, _, e2⟩ := D; rw [e2]; exact Nat.ne_of_lt (Nat.lt_succ_of_lt lb)
    refine wpAny_pyNext_zipD2_end S (draw k1 hh i1 a n1 its.toArray) (draw k2 hh i2 b n2 its2.toArray) g1 g2 g3 ⟨g4, p⟩ ⟨g5, p2⟩ (by simp; omega) (by simp; omega) (by simp; omega) fun h' tk hk => ⟨rfl, I.turnedL (t' := tk) (ch := [z, TI, TO, i1, i2]) (fun c o hb q =>
      hk c o (fun q' => hb (by simp [q'])) (fun q' => hb (by simp [q'])) (fun q' => hb (by simp [q'])) (fun q' => hb (by simp [q'])) q) hf⟩
  self := fun A i s Q E st h => wpAny_pyIter_zip st.1 h

def iZipM (K : PySem.W.Frag) (ta : TA) : TI := fun σ H R => ta σ H fun vs H1 => ∃ k1 k2 a b xs ys, vs = [.ref a, .ref b] ∧ SqOf K k1 H1 a xs ∧ SqOf K k2 H1 b ys ∧ R (ItM K k1 k2 a b) H1
theorem pi_zipM {X : Cx} {e e2 : Expr} {ta : TA} {p pos tpos : Pos} {elts : List Expr} {kk : Nat} (hg : Gl X "zip") (hm : X.mg "zip" = none) (ha : PA X [e, e2] ta)
    (hs : starEach [e, e2] X.env = (false, eval e X.env) :: starEach [e2] X.env := by rfl) (hpl : (backTo pos (starEach [e2] X.env)).any (·.1) = false := by rfl) :
    PI X (.Tuple elts kk tpos) (.Call (.Name "zip" p) [e, e2] [] pos) (iZipM X.K ta) := by
  refine ⟨fun pins s σ H R I h => ?_⟩
  refine Call_ (ld_blt I hg hm PyProof.Rows.boot_zip (PyProof.Rows.callWith_type1 (thn (ha.run pos pins s σ H _ I h) fun us s1 ⟨vs, H1, I1, r1, q1⟩ => ?_) hs hpl))
  obtain ⟨k1, k2, a, b, xs, ys, rfl, hqx, hqy, q⟩ := q1
  cases r1 with
  | cons r rr =>
    cases rr with
    | cons r' rr =>
      cases rr
      cases r
      cases r'
      obtain ⟨its, rv, p1, la⟩ := hqx.ob I1 rfl
      obtain ⟨its2, rv2, p2, lb⟩ := hqy.ob I1 rfl
      refine zip_begins2 (begin_ k1 a its.toArray) (begin_ k2 b its2.toArray) p1 p2 fun h' hz hTI hTO h1 h2 hsz hk => wpAny_pyIter_zip hz ?_
      have I2 : Inv X pins σ H1 { s1 with heap := h' } := I1.kept (t' := s1.toks) hk
      refine ⟨s1.heap.objs.size + 4, [s1.heap.objs.size + 4, s1.heap.objs.size + 2, s1.heap.objs.size + 3, s1.heap.objs.size, s1.heap.objs.size + 1], _, _, H1, rfl, I2, turn_m (k1 := k1) (k2 := k2) ⟨la, lb, rfl, rfl, rfl, rfl, rfl⟩, ⟨hz, hTI, ⟨_, _, hTO⟩, itOf_new h1, itOf_new h2⟩, fun c hcm => ?_, q⟩
      have hle : s1.heap.objs.size ≤ c := by
        simp only [List.mem_cons, List.not_mem_nil, or_false] at hcm
        rcases hcm with z | z | z | z | z <;> rw [z]
        · exact Nat.le_add_right _ _
        · exact Nat.le_add_right _ _
        · exact Nat.le_add_right _ _
        · exact Nat.le_refl _
        · exact Nat.le_add_right _ _
      exact I1.fpOk hle (I1.hok.fresh hle)
theorem walk_m {K : PySem.W.Frag} {k1 k2 : SqKind} {a b : Addr} {xs ys : List V} {n : Nat} (hn : n = min xs.length ys.length) : Walk (ItM K k1 k2 a b) n (fun H => SqOf K k1 H a xs ∧ SqOf K k2 H b ys) (YPair (fun i => xs[i]?) (fun i => ys[i]?)) where
  goes := fun i _ hi q => by
    have h1 : i < xs.length := by omega
    have h2 : i < ys.length := by omega
    exact ⟨xs, ys, xs[i], ys[i], q.1, q.2, by simp [h1], by simp [h2]⟩
  stops := fun _ q => ⟨xs, ys, q.1, q.2, by omega, by omega, by omega⟩
  yields := fun i H v H' _ q y => by
    obtain ⟨T, x, z, e1, e2, e3, e4, e5⟩ := y
    exact ⟨T, x, z, e1, e2, e3, e4 xs q.1, e5 ys q.2⟩
end G

namespace G
open PySem PySem.Spec PyProof.Rows L2

/-! ### enumerate(list, start=k) -/
def ItK (K : PySem.W.Frag) (a : Addr) (k : Int) : It :=
  ⟨fun i H => ∃ xs x, SqL K H a xs ∧ xs[i]? = some x,
    fun i H v H' => ∃ T x, v = .ref T ∧ H T = none ∧ H' = upd H T (.tup [.int (k + (i : Nat)), x]) ∧ ∀ xs, SqL K H a xs → xs[i]? = some x,
    fun i H => ∃ xs, SqL K H a xs ∧ xs.length = i⟩
theorem turn_k {P : Program} {w : World} {K : PySem.W.Frag} {elts : List Expr} {kk : Nat} {tpos : Pos} {a e it : Addr} {k : Int} (ne : e ≠ it) (nea : e ≠ a) (nia : a ≠ it) :
    Turn P w K (.Tuple elts kk tpos) (ItK K a k) [e, it] e (fun i h => (∃ old, IsEnum h e it (k + ((i : Nat) : Int)) old) ∧ ItOf .li h it a i) where
  mem := by simp
  obj := fun i h st c hc => by
    obtain ⟨⟨old, g1⟩, g2⟩ := st
    simp only [List.mem_cons, List.not_mem_nil, or_false] at hc
    rcases hc with q | q <;> rw [q]
    · exact ⟨_, g1, fun v q => nomatch q⟩
    · exact itOf_obj g2
  keep := fun i h h' st kp => by
    obtain ⟨⟨old, g1⟩, g2⟩ := st
    exact ⟨⟨old, kp e (by simp) _ g1⟩, itOf_at g2 fun o q => kp it (by simp) o q⟩
  item := by
    intro X hP hw hK hc i pins s σ H E I hf st hg
    subst hP hw
    obtain ⟨⟨old, g1⟩, g2⟩ := st
    obtain ⟨xs, x, hqx, hx⟩ := hg
    obtain ⟨its, rv, p, _⟩ := SqOf.ob (k := .li) I hK hqx
    obtain ⟨u, hu, ru⟩ := rv.get hx
    have hel : e < s.heap.objs.size := Heap.lt_size g1
    have lu : i < its.toArray.size := by simpa using (List.getElem?_eq_some_iff.mp hu).1
    have hh : X.A.in1.handled = none := I.ok.hd hc
    refine wpAny_pyNext_enum_itemC (draw .li hh it a nia its.toArray) g1 ⟨g2, p⟩ lu ne (by simp [ne, nea]) fun v h' tk ev ho hs' hT hsz hk => ?_
    have ev : v = u := by
      have z : its.toArray[i]? = some u := by simpa using hu
      rw [z] at ev
      exact (Option.some.inj ev).symm
    subst ev
    refine ⟨_, rfl, wpAny_letOwnedTupleGo_enum (s := { s with heap := h', toks := tk + 1 }) ho fun h'' z'' sb => ?_⟩
    have hT2 : h''.get? s.heap.objs.size = some { cls := .type "tuple", data := .seq #[.int (k + (i : Nat)) tk, v] } := (sb.2 _ (Nat.ne_of_gt hel)).trans hT
    have new : ObjOk X.prog X.w (upd H s.heap.objs.size (.tup [.int (k + (i : Nat)), x])) h'' s.heap.objs.size (.tup [.int (k + (i : Nat)), x]) :=
      ⟨by show 2 ≤ sizeLine; decide, [.int (k + (i : Nat)) tk, v], .cons ⟨_, rfl⟩ (.cons ru .nil), ⟨_, hT2, rfl, _, rfl⟩⟩
    have I1 : Inv X pins σ (upd H s.heap.objs.size (.tup [.int (k + (i : Nat)), x])) { s with heap := h'', toks := tk + 1 } :=
      I.turnedNew (t' := tk + 1) (ch := [e, it]) (fun c o hb q => (sb.2 c (fun q' => hb (by simp [q']))).trans (hk c o (fun q' => hb (by simp [q'])) (fun q' => hb (by simp [q'])) q)) hf (Nat.le_refl _) new
    refine ⟨.ref s.heap.objs.size, _, I1, rfl, ⟨_, x, rfl, I.hok.fresh (Nat.le_refl _), rfl, fun l hl => by rw [SqOf.inj (k := .li) I hK hl hqx]; exact hx⟩, ⟨⟨v, ?_⟩, ?_⟩, fun c hcm => ?_⟩
    · rw [show k + ((i + 1 : Nat) : Int) = k + (i : Nat) + 1 by omega]
      exact z''
    · exact itOf_at hs'.1 fun o q => (sb.2 _ (Ne.symm ne)).trans q
    · have hlt : c < s.heap.objs.size := by
        simp only [List.mem_cons, List.not_mem_nil, or_false] at hcm
        rcases hcm with q | q <;> rw [q]
        · exact hel
        · obtain ⟨_, e, _⟩ := itOf_obj g2; exact Heap.lt_size e
      rw [upd_ne (Nat.ne_of_lt hlt)]
      exact (hf c hcm).1
  done := by
    intro X hP hw hK hc i pins s σ H E I hf st hg
    subst hP hw
    obtain ⟨⟨old, g1⟩, g2⟩ := st
    obtain ⟨xs, hqx, le⟩ := hg
    obtain ⟨its, rv, p, _⟩ := SqOf.ob (k := .li) I hK hqx
    have l1 := rv.length
    have hh : X.A.in1.handled = none := I.ok.hd hc
    obtain ⟨f0, f1, f2, f3, f4, f5⟩ := hf it (by simp)
    have sz : its.toArray.size = i := by simp; omega
    refine wpAny_pyNext_enum_endD (draw .li hh it a nia its.toArray) g1 ⟨by rw [sz]; exact g2, p⟩ fun h' eb => ⟨rfl, I.turned (t' := s.toks) (fun b o hb q => eb b o hb q) f0 f1 f3 f4 f5⟩
  self := fun A i s Q E st h => let ⟨⟨_, he⟩, _⟩ := st; wpAny_pyIter_enum he h
theorem callWith_typeK {M : Model} {A : Around} {E : Value → Shared → Prop} {s : Shared} {pos : Pos} {T : String} {args : List (Bool × Sem Value)} {kws : List (Option Str × Sem Value)} {Q : Value → Shared → Prop}
    (h1 : args.any (·.1) = false) (h2 : kws.any (·.1.isNone) = false) (h : wpAny M A (evalArgs (.type T) true args kws) (fun a s' => wpAny M A (call (.type T) a.pos a.kw) Q E s') E s) : wpAny M A (callWith pos (.type T) [] args kws) Q E s := by
  unfold callWith
  apply wpAny_bind
  apply wpAny_holding
  apply wpAny_mono h
  · intro a s' h'
    apply wpAny_bind
    apply wpAny_standAt
    simp only [h1, h2, Bool.or_false, List.nil_append]
    apply wpAny_bind
    apply wpAny_pure
    apply wpAny_bind
    apply wpAny_mono h'
    · exact fun r s'' hr => wpAny_bind (wpAny_holding (wpAny_point (wpAny_pure hr)))
    · exact fun _ _ x => x
  · exact fun _ _ x => x
def iEnumK (K : PySem.W.Frag) (ta tk : TA) : TI := fun σ H R => ta σ H fun vs H1 => tk σ H1 fun zs H2 => ∃ a xs k, vs = [.ref a] ∧ zs = [.int k] ∧ 0 ≤ k ∧ k < 2 ^ 62 ∧ SqL K H2 a xs ∧ R (ItK K a k) H2
theorem pi_enumK {X : Cx} {e : Expr} {kws : List Keyword} {ta tk : TA} {p pos tpos : Pos} {elts : List Expr} {kk : Nat} (hg : Gl X "enumerate") (hm : X.mg "enumerate" = none) (ha : PA X [e] ta) (hk : PK X kws tk)
    (hks : (backToKw pos (keywordEach kws X.env)).filterMap (·.1) = [Str.ofString "start"] := by rfl) (hall : (backToKw pos (keywordEach kws X.env)).all (·.1.isSome) = true := by rfl) (hnone : (backToKw pos (keywordEach kws X.env)).any (·.1.isNone) = false := by rfl)
    (hs : starEach [e] X.env = (false, eval e X.env) :: starEach [] X.env := by rfl) (hpl : (backTo pos (starEach [e] X.env)).any (·.1) = false := by rfl) :
    PI X (.Tuple elts kk tpos) (.Call (.Name "enumerate" p) [e] kws pos) (iEnumK X.K ta tk) := by
  refine ⟨fun pins s σ H R I h => ?_⟩
  refine wpAny_Call_Name_kw (ld_blt I hg hm boot_enumerate ?_)
  refine callWith_typeK hpl hnone ?_
  refine evalArgs_kw2 hall (thn (ha.run pos pins s σ H _ I h) fun us s1 ⟨vs, H1, I1, r1, q1⟩ => thn (hk.run pos pins s1 σ H1 _ I1 q1) fun ws s2 ⟨zs, H2, I2, r2, q2⟩ => ?_) hs
  obtain ⟨a, xs, k, rfl, rfl, k0, k1, hq, q⟩ := q2
  obtain ⟨u, rfl, ru⟩ := vals1 r1
  obtain ⟨v, rfl, rv⟩ := vals1 r2
  cases ru
  obtain ⟨tk, rfl⟩ := rv
  rw [hks]
  obtain ⟨its, rv, p1, la⟩ := SqOf.ob (k := .li) I2 rfl hq
  refine enum_begins_start (begin_ .li a its.toArray) p1 (by omega) (by omega) fun h' he hit hsz hkp => wpAny_pyIter_enum he ?_
  have I3 : Inv X pins σ H2 { s2 with heap := h' } := I2.kept (t' := s2.toks) hkp
  have n1 : s2.heap.objs.size + 1 ≠ s2.heap.objs.size := Nat.succ_ne_self _
  refine ⟨s2.heap.objs.size + 1, [s2.heap.objs.size + 1, s2.heap.objs.size], _, _, H2, rfl, I3, turn_k (a := a) (k := k) n1 (Nat.ne_of_gt (Nat.lt_succ_of_lt la)) (Nat.ne_of_lt la), ⟨⟨.none, ?_⟩, itOf_new hit⟩, fun c hcm => ?_, q⟩
  · rw [show k + ((0 : Nat) : Int) = k by omega]
    exact he
  · have hle : s2.heap.objs.size ≤ c := by
      simp only [List.mem_cons, List.not_mem_nil, or_false] at hcm
      rcases hcm with z | z <;> rw [z]
      · exact Nat.le_add_right _ _
      · exact Nat.le_refl _
    exact I2.fpOk hle (I2.hok.fresh hle)
theorem walk_k {K : PySem.W.Frag} {a : Addr} {xs : List V} {k : Int} : Walk (ItK K a k) xs.length (fun H => SqL K H a xs) (YPair (fun i => some (.int (k + (i : Nat)))) (fun i => xs[i]?)) where
  goes := fun i _ hi q => ⟨xs, xs[i], q, by simp [hi]⟩
  stops := fun _ q => ⟨xs, q, rfl⟩
  yields := fun i H v H' _ q y => by
    obtain ⟨T, x, e1, e2, e3, e4⟩ := y
    exact ⟨T, .int (k + (i : Nat)), x, e1, e2, e3, rfl, e4 xs q⟩
end G

namespace G
open PySem PySem.Spec PyProof.Rows L2
/-- an operator that a class has for its own instances alone -/
structure OpS (K : PySem.W.Frag) (C f : Addr) (nm : String) : Prop where
  first : PySem.W.selfFirst K C = true
  has : PySem.W.findIn K (.ref C) (PySem.dunder nm) = some (some (.ref f))
  isF : PySem.W.isFn K (.ref f) = true
section
variable {X : Cx} {CX : CXT} {C f : Addr} {n : Nat} {sp : Sp} {E : XK}
theorem op_binS {op : Operator} (O : OpS X.K C f op.info.2) (F : FnR X.prog X.w X.K X.mg X.base CX n f sp) (hr : Room n X.A) (hx : Passes CX X E) : OpR X (binaryOp op) (rBinK C sp E) := by
  rintro pins s σ H x y v u Q I rx ry ⟨a, b, dx, dy, fs, gs, rfl, rfl, ha, hb, q⟩
  cases (show v = Value.ref a from rx)
  cases (show u = Value.ref b from ry)
  obtain ⟨_, _, J, _⟩ := ins_inst I ha
  obtain ⟨_, _, J', _⟩ := ins_inst I hb
  obtain ⟨m, hF⟩ := I.fr
  apply PySem.W.binop_K hF I.ok.mod.kin J J'.type O.first O.has O.isF
  apply wpAny_mono (wpAny_call (run_fnR (us := [.ref a, .ref b]) (vs := [.ref a, .ref b]) F hr hx I (.cons rfl (.cons rfl .nil)) q))
  · rintro w s' ⟨z', H', I', rz, qz⟩
    exact SlX.cmpback rz ⟨z', H', I', rz, qz⟩
  · exact fun _ _ z => z
end
theorem op_or {X : Cx} {op : Value → Value → Sem Value} {R1 R2 : L2.R2} (h1 : OpR X op R1) (h2 : OpR X op R2) : OpR X op (fun x y H Q => R1 x y H Q ∨ R2 x y H Q) := by
  rintro pins s σ H x y v u Q I rx ry (h | h)
  · exact h1 pins s σ H x y v u Q I rx ry h
  · exact h2 pins s σ H x y v u Q I rx ry h
theorem red_cross {n u : Int} (h : u ≠ 0) : rNum n u * u = n * rUnd n u := by
  have e1 := num_mul (n := n) h
  have e2 := und_mul (n := n) h
  generalize byOf n u = g at *
  generalize rNum n u = m at *
  generalize rUnd n u = t at *
  subst e1
  have : m * (g * t) = g * m * t := by grind
  rw [← this, e2]
theorem absmul {a b : Int} {x y : Nat} (ha : a.natAbs ≤ x) (hb : b.natAbs ≤ y) : (a * b).natAbs ≤ x * y := by
  rw [Int.natAbs_mul]
  exact Nat.mul_le_mul ha hb
/-- one and the same object, or plain values that are equal: what stands in the tuple of an error and in that of the law -/
def DOne : Eqv := fun x y H => DFlat x y H ∨ ∃ a, x = .ref a ∧ y = .ref a
theorem mon_one : Mon DOne := fun x y H H' e d => d.imp (fun d => mon_flat x y H H' e d) id
theorem eqG_one {X : Cx} : EqG X 0 DOne := fun A pins s σ H x y u v sb I rx ry d => by
  rcases d with d | ⟨a, rfl, rfl⟩
  · exact eqG_flat A pins s σ H x y u v sb I rx ry d
  · cases (show u = Value.ref a from rx)
    cases (show v = Value.ref a from ry)
    exact SeqAt.EqAt.same (A := A) (s := s) (.ref a) X.prog X.w X.xe _ ⟨rfl, H, I, Ext.rfl'⟩
/-- == of two tuples of such items: they are equal -/
theorem op_eqOne {X : Cx} (hr : Room 1 X.A) : OpR X (compareOp .Eq) (rEqG (DTup X.K DOne)) := op_eqG (rcG_tup mon_one eqG_one) hr
/-- one fraction, by its cross products -/
theorem rat_same {a b c d : Int} (hb : b ≠ 0) (hd : d ≠ 0) (h : a * d = c * b) : rNum a b = rNum c d ∧ rUnd a b = rUnd c d := by
  have r1 := red_of (n := a) hb
  have r2 := red_of (n := c) hd
  have e1 := num_mul (n := a) hb
  have e2 := und_mul (n := a) hb
  have e3 := num_mul (n := c) hd
  have e4 := und_mul (n := c) hd
  have g1 := byOf_ne (n := a) hb
  have g2 := byOf_ne (n := c) hd
  generalize byOf a b = g at e1 e2 g1
  generalize byOf c d = k at e3 e4 g2
  generalize rNum a b = n at *
  generalize rUnd a b = u at *
  generalize rNum c d = m at *
  generalize rUnd c d = t at *
  have x : n * t = m * u := by
    have z : (g * k) * (n * t) = (g * k) * (m * u) := by
      rw [← e1, ← e2, ← e3, ← e4] at h
      grind
    exact Int.eq_of_mul_eq_mul_left (Int.mul_ne_zero g1 g2) z
  have d1 : u.natAbs ∣ t.natAbs := by
    refine Nat.Coprime.dvd_of_dvd_mul_left (m := n.natAbs) (Nat.Coprime.symm r1.one) ?_
    rw [← Int.natAbs_mul, x, Int.natAbs_mul]
    exact Nat.dvd_mul_left _ _
  have d2 : t.natAbs ∣ u.natAbs := by
    refine Nat.Coprime.dvd_of_dvd_mul_left (m := m.natAbs) (Nat.Coprime.symm r2.one) ?_
    rw [← Int.natAbs_mul, ← x, Int.natAbs_mul]
    exact Nat.dvd_mul_left _ _
  have eu : u = t := by
    have := Nat.dvd_antisymm d1 d2
    have := r1.pos
    have := r2.pos
    omega
  subst eu
  exact ⟨Int.eq_of_mul_eq_mul_right (by have := r1.pos; omega) x, rfl⟩
end G

namespace G

/-! ### fractions by core's own -/
theorem rq_red (q : Rat) : Red q.num (q.den : Int) := ⟨by have := q.den_pos; omega, q.reduced⟩
theorem rq_ne (q : Rat) : (q.den : Int) ≠ 0 := by have := q.den_pos; omega
theorem rq {n u : Int} (h : u ≠ 0) : rNum n u = (Rat.divInt n u).num ∧ rUnd n u = ((Rat.divInt n u).den : Int) := by
  generalize e : Rat.divInt n u = q
  have e1 := Rat.num_divInt_den q
  rw [← e] at e1
  have e2 := (Rat.divInt_eq_divInt_iff (rq_ne _) h).mp e1
  rw [e] at e2
  have w := rat_same (a := n) (b := u) (c := q.num) (d := q.den) h (rq_ne q) e2.symm
  rw [(rq_red q).same.1, (rq_red q).same.2] at w
  exact w
theorem div_eq (n u : Int) : Rat.divInt n u = (n : Rat) / (u : Rat) := Rat.divInt_eq_div n u
theorem q_eq (q : Rat) : q = (q.num : Rat) / ((q.den : Int) : Rat) := by
  have := Rat.num_divInt_den q
  rw [div_eq] at this
  exact this.symm
theorem qd_ne (q : Rat) : ((q.den : Int) : Rat) ≠ 0 := fun z => rq_ne q (Rat.intCast_eq_zero_iff.mp z)
theorem i_ne {i : Int} (h : i ≠ 0) : (i : Rat) ≠ 0 := fun z => h (Rat.intCast_eq_zero_iff.mp z)
/-- numbers of a fraction: the same fraction, reckoned -/
theorem q_add (x y : Rat) : Rat.divInt (x.num * (y.den : Int) + y.num * (x.den : Int)) ((x.den : Int) * (y.den : Int)) = x + y := by
  have e1 := q_eq x
  have e2 := q_eq y
  have h1 := qd_ne x
  have h2 := qd_ne y
  simp only [div_eq, Rat.intCast_mul, Rat.intCast_add]
  grind
theorem q_sub (x y : Rat) : Rat.divInt (x.num * (y.den : Int) - y.num * (x.den : Int)) ((x.den : Int) * (y.den : Int)) = x - y := by
  have e1 := q_eq x
  have e2 := q_eq y
  have h1 := qd_ne x
  have h2 := qd_ne y
  simp only [div_eq, Rat.intCast_mul, Rat.intCast_sub]
  grind
theorem q_mul (x y : Rat) : Rat.divInt (x.num * y.num) ((x.den : Int) * (y.den : Int)) = x * y := by
  have e1 := q_eq x
  have e2 := q_eq y
  have h1 := qd_ne x
  have h2 := qd_ne y
  simp only [div_eq, Rat.intCast_mul]
  grind
theorem q_div (x y : Rat) (h : y ≠ 0) : Rat.divInt (x.num * (y.den : Int)) ((x.den : Int) * y.num) = x / y := by
  have e1 := q_eq x
  have e2 := q_eq y
  have h1 := qd_ne x
  have h2 := qd_ne y
  have h3 : (y.num : Rat) ≠ 0 := i_ne fun z => h (Rat.num_eq_zero.mp z)
  simp only [div_eq, Rat.intCast_mul]
  grind
theorem num_ne {y : Rat} (h : y ≠ 0) : y.num ≠ 0 := fun z => h (Rat.num_eq_zero.mp z)
/-! ### how long they are -/
structure Sz (k j : Nat) (q : Rat) : Prop where
  num : q.num.natAbs ≤ 10 ^ k
  den : q.den ≤ 10 ^ j
theorem p10 {a b : Nat} (h : a ≤ b) : 10 ^ a ≤ 10 ^ b := Nat.pow_le_pow_right (by decide) h
theorem Sz.mono {k j k' j' : Nat} {q : Rat} (h : Sz k j q) (h1 : k ≤ k') (h2 : j ≤ j') : Sz k' j' q := ⟨Nat.le_trans h.num (p10 h1), Nat.le_trans h.den (p10 h2)⟩
theorem sz_div {n u : Int} {k j : Nat} (h : u ≠ 0) (h1 : n.natAbs ≤ 10 ^ k) (h2 : u.natAbs ≤ 10 ^ j) : Sz k j (Rat.divInt n u) := by
  have e := rq (n := n) h
  have a := num_le (n := n) h
  have b := und_le (n := n) h
  rw [e.1] at a
  rw [e.2] at b
  exact ⟨Nat.le_trans a h1, Nat.le_trans (by omega) h2⟩
theorem mul10 {a b : Int} {k j : Nat} (h1 : a.natAbs ≤ 10 ^ k) (h2 : b.natAbs ≤ 10 ^ j) : (a * b).natAbs ≤ 10 ^ (k + j) := by
  rw [Nat.pow_add]
  exact absmul h1 h2
theorem sub10 {a b : Int} {m : Nat} {k j : Nat} (h1 : a.natAbs ≤ 10 ^ k) (h2 : b.natAbs ≤ 10 ^ j) (g1 : k < m) (g2 : j < m) : (a - b).natAbs ≤ 10 ^ m := by
  obtain ⟨m, rfl⟩ : ∃ i, m = i + 1 := ⟨m - 1, by omega⟩
  have a1 := Nat.le_trans h1 (p10 (show k ≤ m by omega))
  have a2 := Nat.le_trans h2 (p10 (show j ≤ m by omega))
  rw [Nat.pow_succ]
  omega
theorem add10 {a b : Int} {m : Nat} {k j : Nat} (h1 : a.natAbs ≤ 10 ^ k) (h2 : b.natAbs ≤ 10 ^ j) (g1 : k < m) (g2 : j < m) : (a + b).natAbs ≤ 10 ^ m := by
  have := sub10 (b := -b) h1 (by rw [Int.natAbs_neg]; exact h2) g1 g2
  rw [show a + b = a - -b by omega]
  exact this
theorem den10 {k j : Nat} {q : Rat} (h : Sz k j q) : ((q.den : Int)).natAbs ≤ 10 ^ j := h.den
theorem prod_ne (x y : Rat) : (x.den : Int) * (y.den : Int) ≠ 0 := Int.mul_ne_zero (rq_ne x) (rq_ne y)
theorem Sz.add {k j k' j' m i : Nat} {x y : Rat} (a : Sz k j x) (b : Sz k' j' y) (h1 : k + j' < m) (h2 : k' + j < m) (h3 : j + j' ≤ i) : Sz m i (x + y) := by
  rw [← q_add]
  exact (sz_div (j := j + j') (prod_ne x y) (add10 (mul10 a.num (den10 b)) (mul10 b.num (den10 a)) h1 h2) (mul10 (den10 a) (den10 b))).mono (Nat.le_refl _) h3
theorem Sz.sub {k j k' j' m i : Nat} {x y : Rat} (a : Sz k j x) (b : Sz k' j' y) (h1 : k + j' < m) (h2 : k' + j < m) (h3 : j + j' ≤ i) : Sz m i (x - y) := by
  rw [← q_sub]
  exact (sz_div (j := j + j') (prod_ne x y) (sub10 (mul10 a.num (den10 b)) (mul10 b.num (den10 a)) h1 h2) (mul10 (den10 a) (den10 b))).mono (Nat.le_refl _) h3
theorem Sz.mul {k j k' j' m i : Nat} {x y : Rat} (a : Sz k j x) (b : Sz k' j' y) (h1 : k + k' ≤ m) (h2 : j + j' ≤ i) : Sz m i (x * y) := by
  rw [← q_mul]
  exact (sz_div (prod_ne x y) (mul10 a.num b.num) (mul10 (den10 a) (den10 b))).mono h1 h2
theorem Sz.div {k j k' j' m i : Nat} {x y : Rat} (a : Sz k j x) (b : Sz k' j' y) (ne : y ≠ 0) (h1 : k + j' ≤ m) (h2 : j + k' ≤ i) : Sz m i (x / y) := by
  rw [← q_div x y ne]
  exact (sz_div (Int.mul_ne_zero (rq_ne x) (num_ne ne)) (mul10 a.num (den10 b)) (mul10 (den10 a) b.num)).mono h1 h2
/-- a fraction that is long at most so -/
abbrev Wq (q : Rat) : Prop := Sz 300 300 q
def Wd (i : Int) : Prop := i.natAbs < 2 ^ 2000
theorem ten600 : 10 ^ 600 < 2 ^ 2000 := by decide +kernel
theorem Sz.wn {q : Rat} (h : Wq q) : Wd q.num := Nat.lt_of_le_of_lt (Nat.le_trans h.num (p10 (by decide))) ten600
theorem Sz.wd {q : Rat} (h : Wq q) : Wd (q.den : Int) := Nat.lt_of_le_of_lt (Nat.le_trans h.den (p10 (by decide))) ten600
theorem Sz.w {k j : Nat} {q : Rat} (h : Sz k j q) (h1 : k ≤ 300) (h2 : j ≤ 300) : Wq q := h.mono h1 h2
theorem wd_of {i : Int} {k : Nat} (h : i.natAbs ≤ 10 ^ k) (hk : k ≤ 600) : Wd i := Nat.lt_of_le_of_lt (Nat.le_trans h (p10 hk)) ten600
/-! ### dots in least terms -/
structure Can (x y d : Int) (X Y : Rat) : Prop where
  pos : 0 < d
  one : Nat.gcd (Nat.gcd x.natAbs y.natAbs) d.natAbs = 1
  hx : X = Rat.divInt x d
  hy : Y = Rat.divInt y d
theorem Can.uniq {x y d x' y' d' : Int} {X Y : Rat} (a : Can x y d X Y) (b : Can x' y' d' X Y) : x = x' ∧ y = y' ∧ d = d' := by
  have a0 : d ≠ 0 := by have := a.pos; omega
  have b0 : d' ≠ 0 := by have := b.pos; omega
  have e1 := (Rat.divInt_eq_divInt_iff a0 b0).mp (a.hx.symm.trans b.hx)
  have e2 := (Rat.divInt_eq_divInt_iff a0 b0).mp (a.hy.symm.trans b.hy)
  have dv : ∀ {x y d x' y' d' : Int}, x * d' = x' * d → y * d' = y' * d → Nat.gcd (Nat.gcd x.natAbs y.natAbs) d.natAbs = 1 → d.natAbs ∣ d'.natAbs := by
    intro x y d x' y' d' e1 e2 g
    have c1 : d.natAbs ∣ x.natAbs * d'.natAbs := by
      rw [← Int.natAbs_mul, e1, Int.natAbs_mul]
      exact Nat.dvd_mul_left _ _
    have c2 : d.natAbs ∣ y.natAbs * d'.natAbs := by
      rw [← Int.natAbs_mul, e2, Int.natAbs_mul]
      exact Nat.dvd_mul_left _ _
    have c3 : d.natAbs ∣ Nat.gcd x.natAbs y.natAbs * d'.natAbs := by
      rw [← Nat.gcd_mul_right]
      exact Nat.dvd_gcd c1 c2
    exact Nat.Coprime.dvd_of_dvd_mul_left (m := Nat.gcd x.natAbs y.natAbs) (Nat.Coprime.symm g) c3
  have d1 := dv e1 e2 a.one
  have d2 := dv e1.symm e2.symm b.one
  have ed : d = d' := by
    have := Nat.dvd_antisymm d1 d2
    have := a.pos
    have := b.pos
    omega
  subst ed
  exact ⟨Int.eq_of_mul_eq_mul_right a0 e1, Int.eq_of_mul_eq_mul_right a0 e2, rfl⟩
/-- what the three are divided by -/
def byOf3 (x y d : Int) : Int := if d < 0 then -((Nat.gcd (Nat.gcd x.natAbs y.natAbs) d.natAbs : Nat) : Int) else ((Nat.gcd (Nat.gcd x.natAbs y.natAbs) d.natAbs : Nat) : Int)
theorem byOf3_ne {x y d : Int} (h : d ≠ 0) : byOf3 x y d ≠ 0 := by
  have : 0 < Nat.gcd (Nat.gcd x.natAbs y.natAbs) d.natAbs := Nat.gcd_pos_of_pos_right _ (by omega)
  unfold byOf3
  split <;> omega
theorem byOf3_abs {x y d : Int} : (byOf3 x y d).natAbs = Nat.gcd (Nat.gcd x.natAbs y.natAbs) d.natAbs := by
  unfold byOf3
  split <;> omega
theorem byOf3_le {x y d : Int} (h : d ≠ 0) : (byOf3 x y d).natAbs ≤ d.natAbs := by
  rw [byOf3_abs]
  exact Nat.le_of_dvd (by omega) (Nat.gcd_dvd_right _ _)
theorem can_of {x y d : Int} (h : d ≠ 0) : Can (x.fdiv (byOf3 x y d)) (y.fdiv (byOf3 x y d)) (d.fdiv (byOf3 x y d)) (Rat.divInt x d) (Rat.divInt y d) := by
  have g0 := byOf3_ne (x := x) (y := y) h
  have v1 : byOf3 x y d ∣ x := by
    rw [← Int.natAbs_dvd_natAbs, byOf3_abs]
    exact Nat.dvd_trans (Nat.gcd_dvd_left _ _) (Nat.gcd_dvd_left _ _)
  have v2 : byOf3 x y d ∣ y := by
    rw [← Int.natAbs_dvd_natAbs, byOf3_abs]
    exact Nat.dvd_trans (Nat.gcd_dvd_left _ _) (Nat.gcd_dvd_right _ _)
  have v3 : byOf3 x y d ∣ d := by
    rw [← Int.natAbs_dvd_natAbs, byOf3_abs]
    exact Nat.gcd_dvd_right _ _
  have m1 := fd_of g0 v1
  have m2 := fd_of g0 v2
  have m3 := fd_of g0 v3
  have ha := byOf3_abs (x := x) (y := y) (d := d)
  have hs : d < 0 → byOf3 x y d < 0 := fun z => by
    have := byOf3_ne (x := x) (y := y) h
    unfold byOf3 at this ⊢
    rw [if_pos z] at this ⊢
    omega
  have hs' : ¬ d < 0 → 0 < byOf3 x y d := fun z => by
    have := byOf3_ne (x := x) (y := y) h
    unfold byOf3 at this ⊢
    rw [if_neg z] at this ⊢
    omega
  generalize byOf3 x y d = g at *
  generalize x.fdiv g = x' at *
  generalize y.fdiv g = y' at *
  generalize d.fdiv g = d' at *
  have d0 : d' ≠ 0 := fun z => h (by rw [← m3, z, Int.mul_zero])
  constructor
  · by_cases hd : d < 0
    · rcases Int.lt_trichotomy d' 0 with z | z | z
      · have := Int.mul_pos_of_neg_of_neg (hs hd) z
        omega
      · exact absurd z d0
      · exact z
    · rcases Int.lt_trichotomy d' 0 with z | z | z
      · have := Int.mul_neg_of_pos_of_neg (hs' hd) z
        omega
      · exact absurd z d0
      · exact z
  · have e : Nat.gcd (Nat.gcd x.natAbs y.natAbs) d.natAbs = g.natAbs * Nat.gcd (Nat.gcd x'.natAbs y'.natAbs) d'.natAbs := by
      rw [← m1, ← m2, ← m3, Int.natAbs_mul, Int.natAbs_mul, Int.natAbs_mul, Nat.gcd_mul_left, Nat.gcd_mul_left]
    rw [← ha] at e
    exact Nat.eq_of_mul_eq_mul_left (show 0 < g.natAbs by omega) (by omega)
  · refine (Rat.divInt_eq_divInt_iff h d0).mpr ?_
    rw [← m1, ← m3]
    grind
  · refine (Rat.divInt_eq_divInt_iff h d0).mpr ?_
    rw [← m2, ← m3]
    grind
theorem fd_le {x g : Int} (h : g ≠ 0) (v : g ∣ x) : (x.fdiv g).natAbs ≤ x.natAbs := by
  have := congrArg Int.natAbs (fd_of h v)
  rw [Int.natAbs_mul] at this
  rw [← this]
  exact Nat.le_mul_of_pos_left _ (by omega)
/-- how long the three are -/
theorem Can.sz {x y d : Int} {X Y : Rat} (c : Can x y d X Y) {k j : Nat} (hX : Sz k j X) (hY : Sz k j Y) : x.natAbs ≤ 10 ^ (k + j) ∧ y.natAbs ≤ 10 ^ (k + j) ∧ d.natAbs ≤ 10 ^ (j + j) := by
  have h := prod_ne X Y
  have z := can_of (x := X.num * (Y.den : Int)) (y := Y.num * (X.den : Int)) h
  have e1 : Rat.divInt (X.num * (Y.den : Int)) ((X.den : Int) * (Y.den : Int)) = X := by
    have e1 := q_eq X
    have h1 := qd_ne X
    have h2 := qd_ne Y
    simp only [div_eq, Rat.intCast_mul]
    grind
  have e2 : Rat.divInt (Y.num * (X.den : Int)) ((X.den : Int) * (Y.den : Int)) = Y := by
    have e1 := q_eq Y
    have h1 := qd_ne X
    have h2 := qd_ne Y
    simp only [div_eq, Rat.intCast_mul]
    grind
  rw [e1, e2] at z
  have g0 := byOf3_ne (x := X.num * (Y.den : Int)) (y := Y.num * (X.den : Int)) h
  obtain ⟨u1, u2, u3⟩ := c.uniq z
  have v1 : byOf3 (X.num * (Y.den : Int)) (Y.num * (X.den : Int)) ((X.den : Int) * (Y.den : Int)) ∣ (X.num * (Y.den : Int)) := by
    rw [← Int.natAbs_dvd_natAbs, byOf3_abs]
    exact Nat.dvd_trans (Nat.gcd_dvd_left _ _) (Nat.gcd_dvd_left _ _)
  have v2 : byOf3 (X.num * (Y.den : Int)) (Y.num * (X.den : Int)) ((X.den : Int) * (Y.den : Int)) ∣ (Y.num * (X.den : Int)) := by
    rw [← Int.natAbs_dvd_natAbs, byOf3_abs]
    exact Nat.dvd_trans (Nat.gcd_dvd_left _ _) (Nat.gcd_dvd_right _ _)
  have v3 : byOf3 (X.num * (Y.den : Int)) (Y.num * (X.den : Int)) ((X.den : Int) * (Y.den : Int)) ∣ ((X.den : Int) * (Y.den : Int)) := by
    rw [← Int.natAbs_dvd_natAbs, byOf3_abs]
    exact Nat.gcd_dvd_right _ _
  have l1 := fd_le g0 v1
  have l2 := fd_le g0 v2
  have l3 := fd_le g0 v3
  rw [← u1] at l1
  rw [← u2] at l2
  rw [← u3] at l3
  exact ⟨Nat.le_trans l1 (mul10 hX.num (den10 hY)), Nat.le_trans l2 (mul10 hY.num (den10 hX)), Nat.le_trans l3 (mul10 (den10 hX) (den10 hY))⟩
theorem Can.ne {x y d : Int} {X Y : Rat} (c : Can x y d X Y) : d ≠ 0 := by have := c.pos; omega
/-- the same dot, the same three -/
theorem Can.iff {x y d x' y' d' : Int} {X Y X' Y' : Rat} (a : Can x y d X Y) (b : Can x' y' d' X' Y') : (x = x' ∧ y = y' ∧ d = d') ↔ (X = X' ∧ Y = Y') := by
  constructor
  · rintro ⟨rfl, rfl, rfl⟩
    exact ⟨a.hx.trans b.hx.symm, a.hy.trans b.hy.symm⟩
  · rintro ⟨rfl, rfl⟩
    exact a.uniq b
end G

namespace My
open PySem PySem.Spec PyProof.Rows L2 G
def topS (i : Nat) : Stmt := PySem.Challenge.pw_seenabout_k17_lands.main.body.getD i (.Pass ⟨0, 0, 0, 0⟩)
abbrev s__law_pot : Stmt := topS 38
theorem sc__law_pot : FnScope ["_law_script", "_law_k", "_law_cell", "_law_own", "_law_small"] ["_law_script", "_law_k"] (defScope s__law_pot) := ⟨rfl, rfl, rfl, by decide +kernel, rfl, by decide +kernel, by decide +kernel⟩

abbrev s__law_take : Stmt := topS 39
theorem sc__law_take : FnScope ["_law_pot_here", "_law_upto", "_law_digit", "_law_prime", "_law_blend"] ["_law_pot_here", "_law_upto"] (defScope s__law_take) := ⟨rfl, rfl, rfl, by decide +kernel, rfl, by decide +kernel, by decide +kernel⟩

abbrev s__law_of : Stmt := topS 40
theorem sc__law_of : FnScope ["_law_pot_here", "_law_some_here"] ["_law_pot_here", "_law_some_here"] (defScope s__law_of) := ⟨rfl, rfl, rfl, by decide +kernel, rfl, by decide +kernel, by decide +kernel⟩

abbrev s__law_places : Stmt := topS 42
theorem sc__law_places : FnScope ["_law_script", "_law_most"] ["_law_script", "_law_most"] (defScope s__law_places) := ⟨rfl, rfl, rfl, by decide +kernel, rfl, by decide +kernel, by decide +kernel⟩

structure Ad where
  init : Addr
  AboutError : Addr
  BadLand : Addr
  Ratio : Addr
  Point : Addr
  Line : Addr
  Land : Addr
  _law_pot : Addr
  _law_take : Addr
  _law_of : Addr
  _law_some : Addr
  _law_places : Addr
  _law_told : Addr
  _law_is_int : Addr
  _law_odd : Addr
  _law_bent : Addr
  _law_common : Addr
  _law_height : Addr
  _law_marks : Addr
  _law_fits : Addr
  _law_lines : Addr
  _law_cross : Addr
  _law_spot : Addr
  _law_drawn_spot : Addr
  _law_made_point : Addr
  _law_hull : Addr
  _law_corners : Addr
  _law_edges : Addr
  _law_is_within : Addr
  _law_is_land : Addr
  _law_is_judged : Addr
  _law_edge_dots : Addr
  _law_right : Addr
  law : Addr
  is_integer : Addr
  is_number : Addr
  as_ratio : Addr
  check_point : Addr
  line_through : Addr
  spot_of : Addr
  heights_at : Addr
  _is_corner : Addr
  _with_next : Addr
  _borders : Addr
  _goes_round_once : Addr
  Ratio___init__ : Addr
  Ratio___eq__ : Addr
  Point___init__ : Addr
  Point___eq__ : Addr
  Line___init__ : Addr
  Line___eq__ : Addr
  Land___init__ : Addr
  Land___contains__ : Addr
  Land___eq__ : Addr
/-- what isinstance asks of a class of plain instances -/
structure RI (K : PySem.W.Frag) (C : Addr) : Prop where
  ca : PySem.W.findIn K (.ref C) "__class__" = some (some (.builtin "object.__class__"))
  cn : PySem.W.specialIn K (.builtin "object.__class__") "__get__" = some (some (.builtin "getset_descriptor.__get__"))
  ct : PySem.W.takesIn K (.builtin "object.__class__") = some true
  cm : PySem.W.mroIn K C (.type "object") = some true
  ki : PySem.W.kitOne K (.ref C) (.type "int") = some false
  kb : PySem.W.kitOne K (.ref C) (.type "bool") = some false
  ks : PySem.W.kitOne K (.ref C) (.ref C) = some true
  kt : ∀ t ∈ (["int", "bool", "NoneType", "str", "tuple", "list", "dict"] : List String), PySem.W.kitOne K (.type t) (.ref C) = some false
/-- what the top has written -/
structure Txt (K : PySem.W.Frag) (mg : Str → Option Value) (a : Ad) : Prop where
  n_abs : mg "abs" = none
  n_all : mg "all" = none
  n_any : mg "any" = none
  n_bool : mg "bool" = none
  n_enumerate : mg "enumerate" = none
  n_int : mg "int" = none
  n_isinstance : mg "isinstance" = none
  n_len : mg "len" = none
  n_list : mg "list" = none
  n_max : mg "max" = none
  n_min : mg "min" = none
  n_range : mg "range" = none
  n_repr : mg "repr" = none
  n_set : mg "set" = none
  n_sorted : mg "sorted" = none
  n_str : mg "str" = none
  n_sum : mg "sum" = none
  n_tuple : mg "tuple" = none
  n_zip : mg "zip" = none
  g_AboutError : mg "AboutError" = some (.ref a.AboutError)
  g_BadLand : mg "BadLand" = some (.ref a.BadLand)
  c_BadLand : EC K a.BadLand
  i_BadLand : PySem.W.findIn K (.ref a.BadLand) "__init__" = some (some (.ref a.init))
  x_BadLand : PySem.W.exmOne K (.ref a.BadLand) (.ref a.AboutError) = some true
  t_BadLand : PySem.W.kitOne K (.ref a.BadLand) (.ref a.BadLand) = some true
  tI : PySem.W.typeIn K (.ref a.init) = some (.type "function")
  ek : EK K
  g_gcd : mg "gcd" = some (.builtin "math.gcd")
  g_FAR : ∃ t, mg "_FAR" = some (.int 999 t)
  g_Ratio : mg "Ratio" = some (.ref a.Ratio)
  m_Ratio : Mk K a.Ratio a.Ratio___init__
  cl : Cls K a.Ratio
  ri : RI K a.Ratio
  eqc : EqC K a.Ratio a.Ratio___eq__
  g_Point : mg "Point" = some (.ref a.Point)
  m_Point : Mk K a.Point a.Point___init__
  clP : Cls K a.Point
  riP : RI K a.Point
  eqP : EqC K a.Point a.Point___eq__
  g_Line : mg "Line" = some (.ref a.Line)
  m_Line : Mk K a.Line a.Line___init__
  clL : Cls K a.Line
  riL : RI K a.Line
  eqL : EqC K a.Line a.Line___eq__
  g_Land : mg "Land" = some (.ref a.Land)
  m_Land : Mk K a.Land a.Land___init__
  clD : Cls K a.Land
  riD : RI K a.Land
  eqD : EqC K a.Land a.Land___eq__
  nN : NoAttr K a.Ratio "number"
  nU : NoAttr K a.Ratio "under"
  nX : NoAttr K a.Point "x"
  nY : NoAttr K a.Point "y"
  nA : NoAttr K a.Line "one"
  nB : NoAttr K a.Line "other"
  nC : NoAttr K a.Land "corners"
  nE : NoAttr K a.Land "edges"
  nBo : NoAttr K a.Land "borders"
  rPL : PySem.W.kitOne K (.ref a.Point) (.ref a.Line) = some false
  rDP : PySem.W.kitOne K (.ref a.Land) (.ref a.Point) = some false
  conA : PySem.W.findIn K (.ref a.Land) "__contains__" = some (some (.ref a.Land___contains__))
  conF : PySem.W.isFn K (.ref a.Land___contains__) = true
  g__law_pot : mg "_law_pot" = some (.ref a._law_pot)
  k__law_pot : PySem.W.keepIn K (.ref a._law_pot) = true
  g__law_take : mg "_law_take" = some (.ref a._law_take)
  k__law_take : PySem.W.keepIn K (.ref a._law_take) = true
  g__law_of : mg "_law_of" = some (.ref a._law_of)
  k__law_of : PySem.W.keepIn K (.ref a._law_of) = true
  g__law_some : mg "_law_some" = some (.ref a._law_some)
  k__law_some : PySem.W.keepIn K (.ref a._law_some) = true
  g__law_places : mg "_law_places" = some (.ref a._law_places)
  k__law_places : PySem.W.keepIn K (.ref a._law_places) = true
  g__law_told : mg "_law_told" = some (.ref a._law_told)
  k__law_told : PySem.W.keepIn K (.ref a._law_told) = true
  g__law_is_int : mg "_law_is_int" = some (.ref a._law_is_int)
  k__law_is_int : PySem.W.keepIn K (.ref a._law_is_int) = true
  g__law_odd : mg "_law_odd" = some (.ref a._law_odd)
  k__law_odd : PySem.W.keepIn K (.ref a._law_odd) = true
  g__law_bent : mg "_law_bent" = some (.ref a._law_bent)
  k__law_bent : PySem.W.keepIn K (.ref a._law_bent) = true
  g__law_common : mg "_law_common" = some (.ref a._law_common)
  k__law_common : PySem.W.keepIn K (.ref a._law_common) = true
  g__law_height : mg "_law_height" = some (.ref a._law_height)
  k__law_height : PySem.W.keepIn K (.ref a._law_height) = true
  g__law_marks : mg "_law_marks" = some (.ref a._law_marks)
  k__law_marks : PySem.W.keepIn K (.ref a._law_marks) = true
  g__law_fits : mg "_law_fits" = some (.ref a._law_fits)
  k__law_fits : PySem.W.keepIn K (.ref a._law_fits) = true
  g__law_lines : mg "_law_lines" = some (.ref a._law_lines)
  k__law_lines : PySem.W.keepIn K (.ref a._law_lines) = true
  g__law_cross : mg "_law_cross" = some (.ref a._law_cross)
  k__law_cross : PySem.W.keepIn K (.ref a._law_cross) = true
  g__law_spot : mg "_law_spot" = some (.ref a._law_spot)
  k__law_spot : PySem.W.keepIn K (.ref a._law_spot) = true
  g__law_drawn_spot : mg "_law_drawn_spot" = some (.ref a._law_drawn_spot)
  k__law_drawn_spot : PySem.W.keepIn K (.ref a._law_drawn_spot) = true
  g__law_made_point : mg "_law_made_point" = some (.ref a._law_made_point)
  k__law_made_point : PySem.W.keepIn K (.ref a._law_made_point) = true
  g__law_hull : mg "_law_hull" = some (.ref a._law_hull)
  k__law_hull : PySem.W.keepIn K (.ref a._law_hull) = true
  g__law_corners : mg "_law_corners" = some (.ref a._law_corners)
  k__law_corners : PySem.W.keepIn K (.ref a._law_corners) = true
  g__law_edges : mg "_law_edges" = some (.ref a._law_edges)
  k__law_edges : PySem.W.keepIn K (.ref a._law_edges) = true
  g__law_is_within : mg "_law_is_within" = some (.ref a._law_is_within)
  k__law_is_within : PySem.W.keepIn K (.ref a._law_is_within) = true
  g__law_is_land : mg "_law_is_land" = some (.ref a._law_is_land)
  k__law_is_land : PySem.W.keepIn K (.ref a._law_is_land) = true
  g__law_is_judged : mg "_law_is_judged" = some (.ref a._law_is_judged)
  k__law_is_judged : PySem.W.keepIn K (.ref a._law_is_judged) = true
  g__law_edge_dots : mg "_law_edge_dots" = some (.ref a._law_edge_dots)
  k__law_edge_dots : PySem.W.keepIn K (.ref a._law_edge_dots) = true
  g__law_right : mg "_law_right" = some (.ref a._law_right)
  k__law_right : PySem.W.keepIn K (.ref a._law_right) = true
  g_law : mg "law" = some (.ref a.law)
  k_law : PySem.W.keepIn K (.ref a.law) = true
  g_is_integer : mg "is_integer" = some (.ref a.is_integer)
  k_is_integer : PySem.W.keepIn K (.ref a.is_integer) = true
  g_is_number : mg "is_number" = some (.ref a.is_number)
  k_is_number : PySem.W.keepIn K (.ref a.is_number) = true
  g_as_ratio : mg "as_ratio" = some (.ref a.as_ratio)
  k_as_ratio : PySem.W.keepIn K (.ref a.as_ratio) = true
  g_check_point : mg "check_point" = some (.ref a.check_point)
  k_check_point : PySem.W.keepIn K (.ref a.check_point) = true
  g_line_through : mg "line_through" = some (.ref a.line_through)
  k_line_through : PySem.W.keepIn K (.ref a.line_through) = true
  g_spot_of : mg "spot_of" = some (.ref a.spot_of)
  k_spot_of : PySem.W.keepIn K (.ref a.spot_of) = true
  g_heights_at : mg "heights_at" = some (.ref a.heights_at)
  k_heights_at : PySem.W.keepIn K (.ref a.heights_at) = true
  g__is_corner : mg "_is_corner" = some (.ref a._is_corner)
  k__is_corner : PySem.W.keepIn K (.ref a._is_corner) = true
  g__with_next : mg "_with_next" = some (.ref a._with_next)
  k__with_next : PySem.W.keepIn K (.ref a._with_next) = true
  g__borders : mg "_borders" = some (.ref a._borders)
  k__borders : PySem.W.keepIn K (.ref a._borders) = true
  g__goes_round_once : mg "_goes_round_once" = some (.ref a._goes_round_once)
  k__goes_round_once : PySem.W.keepIn K (.ref a._goes_round_once) = true

/-! ### the pot: three ints, of which the last counts -/
def PotAt (H : Hp) (p : Addr) (n : Nat) : Prop := ∃ a b c : Int, H p = some (.lst [.int a, .int b, .int c]) ∧ (0 ≤ a ∧ a < 10 ^ 300) ∧ (0 ≤ b ∧ b < 2 ^ 61) ∧ (0 ≤ c ∧ c ≤ (n : Int))
/-- the heap without the pot -/
noncomputable abbrev wo (p : Addr) (H : Hp) : Hp := mask (fun b => b = p) H
theorem wo_ne {p b : Addr} {H : Hp} (h : b ≠ p) : wo p H b = H b := mask_out h
theorem wo_same {p : Addr} {H : Hp} : wo p H p = none := mask_in rfl
theorem wo_le (p : Addr) (H : Hp) : Same (wo p H) H := mask_le _ _
theorem wo_upd {p : Addr} {H : Hp} {o : HO} : wo p (upd H p o) = wo p H := by
  funext b
  by_cases e : b = p
  · rw [e, wo_same, wo_same]
  · rw [wo_ne e, wo_ne e, upd_ne e]
/-- all but the pot stays, the pot is one still -/
structure Go (p : Addr) (n : Nat) (H H' : Hp) : Prop where
  keep : Same (wo p H) (wo p H')
  pot : PotAt H' p n
theorem Go.trans {p : Addr} {m n : Nat} {H H1 H2 : Hp} (a : Go p m H H1) (b : Go p n H1 H2) : Go p n H H2 := ⟨a.keep.trans b.keep, b.pot⟩
theorem Go.at {p : Addr} {n : Nat} {H H' : Hp} (g : Go p n H H') {b : Addr} {o : HO} (h : H b = some o) (hb : b ≠ p) : H' b = some o := wo_le p H' _ _ (g.keep b o (by rw [wo_ne hb]; exact h))

def spPot (K : PySem.W.Frag) : Sp := fun vs H Q _ => ∃ (s : Addr) (ns : List Int) (k : Int), vs = [.ref s, .int k] ∧ SqL K H s (ns.map V.int) ∧ ns.length ≤ 63 ∧ 0 ≤ k ∧ k ≤ 100 ∧
  ∀ p H', H p = none → Same H H' → PotAt H' p 0 → Q (.ref p) H'
def spTake : Sp := fun vs H Q _ => ∃ (p : Addr) (u : Int) (n : Nat), vs = [.ref p, .int u] ∧ PotAt H p n ∧ n ≤ 100000 ∧ 1 ≤ u ∧ u ≤ 10 ^ 8 ∧
  ∀ d H', 0 ≤ d → d < u → Go p (n + 1) H H' → Q (.int d) H'
def spOf : Sp := fun vs H Q _ => ∃ (p s : Addr) (n : Nat) (xs : List V), vs = [.ref p, .ref s] ∧ s ≠ p ∧ PotAt H p n ∧ n ≤ 100000 ∧ H s = some (.lst xs) ∧ xs ≠ [] ∧ xs.length ≤ 10 ^ 6 ∧
  ∀ x H', x ∈ xs → Go p (n + 1) H H' → Q x H'
def spPlaces (K : PySem.W.Frag) : Sp := fun vs H Q _ => ∃ (s : Addr) (ns : List Int) (m : Int), vs = [.ref s, .int m] ∧ SqL K H s (ns.map V.int) ∧ ns.length ≤ 63 ∧ 1 ≤ m ∧ m ≤ 100 ∧
  ∀ (l : Addr) (n : Nat) (H' : Hp), H l = none → Same H H' → (n : Int) ≤ m → H' l = some (.lst (rgV 0 n)) → Q (.ref l) H'
/-- what is kept but for the pot keeps data that lie elsewhere -/
theorem Go.mask {p : Addr} {n : Nat} {H H' : Hp} {N : Addr → Prop} (g : Go p n H H') (hp : N p) : Same (mask N H) (mask N H') := fun b o h => by
  obtain ⟨nb, e⟩ := mask_some h
  have hb : b ≠ p := fun z => nb (by rw [z]; exact hp)
  rw [mask_out nb]
  exact g.at e hb
theorem Go.is {p : Addr} {n : Nat} {H H' : Hp} {N : Addr → Prop} {G : PyData → Prop} {v : V} (g : Go p n H H') (hp : N p) (x : Is N H G v) : Is N H' G v := let ⟨d, a, y⟩ := x; ⟨d, a.same (g.mask hp), y⟩
theorem Go.of {p : Addr} {n : Nat} {H H1 H' : Hp} (S : Same H H1) (g : Go p n H1 H') : Go p n H H' := ⟨(mask_mono S).trans g.keep, g.pot⟩
theorem PotAt.same {p : Addr} {n : Nat} {H H' : Hp} (S : Same H H') (x : PotAt H p n) : PotAt H' p n := let ⟨a, b, c, h, r⟩ := x; ⟨a, b, c, S _ _ h, r⟩
theorem PotAt.mono {p : Addr} {m n : Nat} {H : Hp} (x : PotAt H p m) (h : m ≤ n) : PotAt H p n := let ⟨a, b, c, e, r1, r2, r3, r4⟩ := x; ⟨a, b, c, e, r1, r2, r3, by omega⟩
theorem PotAt.has {p : Addr} {n : Nat} {H : Hp} (x : PotAt H p n) : H p ≠ none := by obtain ⟨a, b, c, e, _⟩ := x; rw [e]; simp
theorem Go.mono {p : Addr} {m n : Nat} {H H' : Hp} (g : Go p m H H') (h : m ≤ n) : Go p n H H' := ⟨g.keep, g.pot.mono h⟩

/-- any of the odd values: new data -/
def spOdd : Sp := fun vs H Q _ => ∃ (p : Addr) (n : Nat), vs = [.ref p] ∧ PotAt H p n ∧ n ≤ 100000 ∧ ∀ v H', (∀ N, Tr N H → Is N H' (Gd 60 4) v) → Go p (n + 1) H H' → Q v H'
section
variable {P : Program} {w : World} {K : PySem.W.Frag} {mg : Str → Option Value} {base : Heap} {a : Ad}

theorem pow300 : ((10 : Int) ^ (60 : Int).toNat) ^ (5 : Int).toNat = 10 ^ 300 := by
  show ((10 : Int) ^ 60) ^ 5 = 10 ^ 300
  rw [← Int.pow_mul]
theorem cpow1 : CPowW 10 60 := ⟨by decide, by decide, by decide +kernel⟩
theorem cpow2 : CPowW ((10 : Int) ^ (60 : Int).toNat) 5 := ⟨by decide +kernel, by decide, by decide +kernel⟩
theorem cpow3 : CPowW 10 18 := ⟨by decide, by decide, by decide +kernel⟩
theorem mod300 (x : Int) : 0 ≤ x.fmod (10 ^ 300) ∧ x.fmod (10 ^ 300) < 10 ^ 300 := by
  have h : (0 : Int) < 10 ^ 300 := by decide +kernel
  exact ⟨Int.fmod_nonneg_of_pos _ h, Int.fmod_lt_of_pos _ h⟩
theorem cpow_of {i : Int} (h0 : 2 ≤ i) (h : i < 2 ^ 100) : CPowW i 3 := by
  refine ⟨h0, by decide, ?_⟩
  have h1 : i.natAbs < 2 ^ 100 := by omega
  have h2 := PySem.Flt.log2_lt_of (by decide) h1
  have h3 : Builtin.Int.intBits i ≤ i.natAbs.log2 + 1 := by
    unfold Builtin.Int.intBits
    split <;> omega
  omega
theorem b01 (b : Bool) : -(2 ^ 64) < (if b = true then (1 : Int) else 0) ∧ (if b = true then (1 : Int) else 0) < 2 ^ 64 := by cases b <;> decide
theorem own01 {x m : Int} (h : 0 ≤ x ∧ x < m) (b : Bool) : 0 ≤ x * (if b = true then (1 : Int) else 0) ∧ x * (if b = true then (1 : Int) else 0) < m := by
  cases b
  · simp; omega
  · simp; omega
theorem fm {u : Int} (x : Int) (h : 0 < u) : 0 ≤ x.fmod u ∧ x.fmod u < u := ⟨Int.fmod_nonneg_of_pos _ h, Int.fmod_lt_of_pos _ h⟩
theorem ok__law_pot {fd : FuncData} (F : Fun K "_law_pot" "_law_pot" s__law_pot a._law_pot fd) (T : Txt K mg a) :
    Fn P w K mg base CX0 1 a._law_pot fd ["_law_script", "_law_k"] (spPot K) := by
  refine ok F sc__law_pot (fun vs H Q E h => ?len) (fun cdv A outer s H vs Q E hq hr h => ⟨_,
      (Evl.pss_cut (ps_set (i := 2) sc__law_pot.nd rfl (Or.inl rfl) (pe_ifExp (pt_cmpR op_lt (pv 1) (pe_callB call_len_seq (by rfl) T.n_len (by decide +kernel) (pa_cons (pv 0) pa_nil)) (nomark _)) (pe_ix ix_list (pv 0) (pv 1) (fun _ _ => rfl)) (pe_op op_add (pe_op op_mul pe_int (pv 1)) pe_int)))
      (pss_cons (ps_set (i := 3) sc__law_pot.nd rfl (Or.inl rfl) (pe_op op_mul (pe_op op_modN (pe_callTy call_int1 (by rfl) T.n_int (by decide +kernel) (pa_cons (pe_callB call_abs (by rfl) T.n_abs (by decide +kernel) (pa_cons (pv 2) pa_nil)) pa_nil)) (pe_op op_powW (pe_op op_powW pe_int pe_int) pe_int)) (pe_callTy call_int1 (by rfl) T.n_int (by decide +kernel) (pa_cons (pe_cmpR op_ge (pe_callB call_abs (by rfl) T.n_abs (by decide +kernel) (pa_cons (pv 2) pa_nil)) (pe_op op_powW pe_int pe_int) (nomark _)) pa_nil))))
      (pss_cons (ps_set (i := 4) sc__law_pot.nd rfl (Or.inl rfl) (pe_op op_modN (pe_callTy call_int1 (by rfl) T.n_int (by decide +kernel) (pa_cons (pv 2) pa_nil)) pe_int))
      (pss_one (ps_ret (pe_lstS (pa_cons (pv 3) (pa_cons (pe_op op_modN (pe_callTy call_int1 (by rfl) T.n_int (by decide +kernel) (pa_cons (pe_op op_add (pe_op op_add (pe_op op_mul (pv 4) pe_int) (pe_op op_mul (pe_op op_mul pe_int (pv 1)) (pv 1))) pe_int) pa_nil)) pe_int) (pa_cons pe_int pa_nil))))))))), ?body⟩)
  case len => obtain ⟨s, ns, k, rfl, _⟩ := h; rfl
  case body =>
    obtain ⟨s, ns, k, rfl, hs, hl, hk0, hk1, q⟩ := h
    refine ⟨fun σ' H' => ∃ c : Int, σ' = [some (.ref s), some (.int k), some (.int c), none, none] ∧ H' = H, ?first, ?rest⟩
    case first =>
      refine ⟨_, rfl, _, rfl, _, _, rfl, .inl hs, _, _, rfl, rfl, _, rfl, ite2 (fun c => ?_) (fun c => ?_)⟩
      · have hk : k.toNat < ns.length := by
          have := of_decide_eq_true c
          rw [List.length_map] at this
          omega
        refine ⟨_, rfl, _, rfl, _, _, _, _, rfl, rfl, hs, at_of (j := k.toNat) (v := .int ns[k.toNat]) (by omega) (by rw [List.getElem?_map, List.getElem?_eq_getElem hk]; rfl), ?_⟩
        exact ⟨_, rfl, rfl⟩
      · refine ⟨_, rfl, _, _, rfl, rfl, .inl ⟨by decide, by decide⟩, _, _, rfl, rfl, ?_⟩
        exact ⟨_, rfl, rfl⟩
    case rest =>
      rintro σ' H' ⟨c, rfl, rfl⟩
      have m1 : 0 ≤ c.fmod 2305843009213693951 ∧ c.fmod 2305843009213693951 < 2305843009213693951 := ⟨Int.fmod_nonneg_of_pos _ (by decide), Int.fmod_lt_of_pos _ (by decide)⟩
      refine ⟨_, rfl, _, rfl, .inl ⟨_, rfl, _, _, rfl, rfl, cpow1, _, _, rfl, rfl, cpow2, _, _, rfl, rfl, (by rw [pow300]; show (10 ^ 300 : Int) ≠ 0; decide +kernel), _, rfl, _, rfl, _, _, rfl, rfl, cpow3, _, _, rfl, rfl, .inr ⟨_, rfl, _, _, rfl, rfl, .inr (b01 _), ?_⟩⟩⟩
      refine ⟨_, rfl, .inl ⟨_, rfl, _, _, rfl, rfl, (by show (_ : Int) ≠ 0; decide), ?_⟩⟩
      refine ⟨_, rfl, _, rfl, _, _, rfl, rfl, .inl ⟨by omega, by omega⟩, _, rfl, _, _, rfl, rfl, .inl ⟨by decide, by decide⟩, _, rfl, _, _, rfl, rfl, .inr ⟨by omega, by omega⟩, _, _, rfl, rfl, _, _, rfl, rfl, .inl ⟨_, rfl, _, _, rfl, rfl, (by show (_ : Int) ≠ 0; decide), (by show 3 ≤ sizeLine; decide), fun p h1 s1 => ?_⟩⟩
      refine q p _ h1 (fun b o z => by rw [upd_ne (ne_of_none z h1)]; exact z) ⟨_, _, _, upd_same, ?_, ?_, by decide⟩
      · rw [pow300]
        exact own01 (mod300 _) _
      · exact ⟨Int.fmod_nonneg_of_pos _ (by decide), Int.lt_trans (Int.fmod_lt_of_pos _ (by decide)) (by decide)⟩
theorem ok__law_take {fd : FuncData} (F : Fun K "_law_take" "_law_take" s__law_take a._law_take fd) (T : Txt K mg a) :
    Fn P w K mg base CX0 1 a._law_take fd ["_law_pot_here", "_law_upto"] spTake := by
  refine ok F sc__law_take (fun vs H Q E h => ?len) (fun cdv A outer s H vs Q E hq hr h => ⟨_,
      (pss_cons (ps_if (pt_cmpR op_gt (pe_ix ix_list (pv 0) pe_int (fun _ _ => rfl)) pe_int (nomark _)) (pss_cons (ps_set (i := 2) sc__law_take.nd rfl (Or.inl rfl) (pe_op op_modN (pe_callTy call_int1 (by rfl) T.n_int (by decide +kernel) (pa_cons (pe_ix ix_list (pv 0) pe_int (fun _ _ => rfl)) pa_nil)) (pv 1)))
      (pss_cons (ps_asg (pe_op op_fdivN (pe_ix ix_list (pv 0) pe_int (fun _ _ => rfl)) (pv 1)) (pg_sub (pv 0) pe_int set_list))
      (pss_one (ps_ret (pv 2))))) pss_nil)
      (pss_cons (ps_asg (pe_op op_add (pe_ix ix_list (pv 0) pe_int (fun _ _ => rfl)) pe_int) (pg_sub (pv 0) pe_int set_list))
      (pss_cons (ps_set (i := 3) sc__law_take.nd rfl (Or.inl rfl) (pe_ix ix_list (pe_lstS (pa_cons pe_int (pa_cons pe_int (pa_cons pe_int (pa_cons pe_int (pa_cons pe_int pa_nil)))))) (pe_op op_modN (pe_callTy call_int1 (by rfl) T.n_int (by decide +kernel) (pa_cons (pe_ix ix_list (pv 0) pe_int (fun _ _ => rfl)) pa_nil)) pe_int) (fun _ _ => rfl)))
      (pss_cons (ps_set (i := 4) sc__law_take.nd rfl (Or.inl rfl) (pe_op op_modN (pe_callTy call_int1 (by rfl) T.n_int (by decide +kernel) (pa_cons (pe_op op_powW (pe_callTy call_int1 (by rfl) T.n_int (by decide +kernel) (pa_cons (pe_op op_add (pe_op op_add (pe_ix ix_list (pv 0) pe_int (fun _ _ => rfl)) (pe_op op_mul (pe_op op_mul pe_int (pe_ix ix_list (pv 0) pe_int (fun _ _ => rfl))) (pe_ix ix_list (pv 0) pe_int (fun _ _ => rfl)))) pe_int) pa_nil)) pe_int) pa_nil)) (pv 3)))
      (pss_one (ps_ret (pe_op op_modN (pe_callTy call_int1 (by rfl) T.n_int (by decide +kernel) (pa_cons (pe_op op_fdivN (pe_op op_mul (pv 4) (pe_op op_add (pe_op op_modN (pe_callTy call_int1 (by rfl) T.n_int (by decide +kernel) (pa_cons (pv 4) pa_nil)) pe_int) (pe_op op_mul pe_int (pe_ix ix_list (pv 0) pe_int (fun _ _ => rfl))))) pe_int) pa_nil)) (pv 1)))))))), ?body⟩)
  case len => obtain ⟨p, u, n, rfl, _⟩ := h; rfl
  case body =>
    obtain ⟨p, u, n, rfl, ⟨x, y, z, hp, ⟨hx0, hx1⟩, ⟨hy0, hy1⟩, hz0, hz1⟩, hn, hu0, hu1, q⟩ := h
    refine ⟨_, rfl, p, _, _, _, rfl, rfl, SqL.of hp, rfl, _, _, rfl, rfl, _, rfl, ite2 (fun c => ?_) (fun c => ?_)⟩
    · refine ⟨_, rfl, _, _, _, _, rfl, rfl, SqL.of hp, rfl, .inl ⟨_, rfl, _, rfl, _, _, rfl, rfl, (by omega), _, rfl, _, _, _, _, rfl, rfl, SqL.of hp, rfl, _, rfl, _, _, rfl, rfl, ⟨by omega, by omega⟩, _, rfl, _, _, _, _, rfl, rfl, hp, rfl, _, rfl, ?_⟩⟩
      refine q _ _ (Int.fmod_nonneg_of_pos _ (by omega)) (Int.fmod_lt_of_pos _ (by omega)) ⟨by rw [wo_upd]; exact fun _ _ z => z, _, _, _, upd_same, ?_, ⟨hy0, hy1⟩, hz0, by omega⟩
      have e : x.fdiv u = x / u := Int.fdiv_eq_ediv_of_nonneg _ (by omega)
      show 0 ≤ x.fdiv u ∧ x.fdiv u < 10 ^ 300
      rw [e]
      exact ⟨Int.ediv_nonneg hx0 (by omega), Int.lt_of_le_of_lt (Int.ediv_le_self _ hx0) hx1⟩
    · refine ⟨_, rfl, _, _, _, _, rfl, rfl, SqL.of hp, rfl, _, _, rfl, rfl, _, rfl, _, _, _, _, rfl, rfl, hp, rfl, (by show 5 ≤ sizeLine; decide), fun l hl sl => ?_⟩
      have hp1 : upd H p (.lst [V.int x, V.int y, V.int (z + 1)]) p = some (.lst [V.int x, V.int y, V.int (z + 1)]) := upd_same
      replace hl : upd H p (.lst [V.int x, V.int y, V.int (z + 1)]) l = none := hl
      have npl : p ≠ l := ne_of_none hp1 hl
      have hp2 : upd (upd H p (.lst [V.int x, V.int y, V.int (z + 1)])) l (.lst [V.int 2147483647, V.int 2147483629, V.int 2147483587, V.int 2147483579, V.int 2147483563]) p = some (.lst [V.int x, V.int y, V.int (z + 1)]) := by rw [upd_ne npl]; exact hp1
      have hl2 : upd (upd H p (.lst [V.int x, V.int y, V.int (z + 1)])) l (.lst [V.int 2147483647, V.int 2147483629, V.int 2147483587, V.int 2147483579, V.int 2147483563]) l = some (.lst [V.int 2147483647, V.int 2147483629, V.int 2147483587, V.int 2147483579, V.int 2147483563]) := upd_same
      have keep : Same (wo p H) (wo p (upd (upd H p (.lst [V.int x, V.int y, V.int (z + 1)])) l (.lst [V.int 2147483647, V.int 2147483629, V.int 2147483587, V.int 2147483579, V.int 2147483563]))) := by
        intro b o e
        by_cases hb : b = p
        · rw [hb, wo_same] at e; cases e
        · rw [wo_ne hb] at e ⊢
          have : b ≠ l := by
            rintro rfl
            rw [upd_ne hb, e] at hl
            cases hl
          rw [upd_ne this, upd_ne hb]; exact e
      -- which prime
      obtain ⟨j, hj, ej⟩ : ∃ j : Nat, j < 5 ∧ (z + 1).fmod 5 = (j : Int) := ⟨((z + 1).fmod 5).toNat, by have := Int.fmod_lt_of_pos (z + 1) (show (0 : Int) < 5 by decide); have := Int.fmod_nonneg_of_pos (z + 1) (show (0 : Int) < 5 by decide); omega, by have := Int.fmod_nonneg_of_pos (z + 1) (show (0 : Int) < 5 by decide); omega⟩
      obtain ⟨pr, hpr, at5⟩ : ∃ pr : Int, (2147483563 ≤ pr ∧ pr ≤ 2147483647) ∧ [V.int 2147483647, V.int 2147483629, V.int 2147483587, V.int 2147483579, V.int 2147483563][j]? = some (.int pr) := by
        match j, hj with
        | 0, _ => exact ⟨_, ⟨by decide, by decide⟩, rfl⟩
        | 1, _ => exact ⟨_, ⟨by decide, by decide⟩, rfl⟩
        | 2, _ => exact ⟨_, ⟨by decide, by decide⟩, rfl⟩
        | 3, _ => exact ⟨_, ⟨by decide, by decide⟩, rfl⟩
        | 4, _ => exact ⟨_, ⟨by decide, by decide⟩, rfl⟩
      have zz : 0 ≤ (z + 1) * (z + 1) ∧ (z + 1) * (z + 1) ≤ 100001 * 100001 := ⟨Int.mul_nonneg (by omega) (by omega), Int.mul_le_mul (by omega) (by omega) (by omega) (by omega)⟩
      have e9 : 93101 * (z + 1) * (z + 1) = 93101 * ((z + 1) * (z + 1)) := Int.mul_assoc _ _ _
      refine ⟨_, rfl, _, _, _, _, rfl, rfl, SqL.of hp2, rfl, .inl ⟨_, rfl, _, _, rfl, rfl, (by show (_ : Int) ≠ 0; decide), _, _, _, _, rfl, rfl, SqL.of hl2, at_of ej at5, ?_⟩⟩
      refine ⟨_, rfl, _, _, _, _, rfl, rfl, SqL.of hp2, rfl, _, rfl, _, _, _, _, rfl, rfl, SqL.of hp2, rfl, _, _, rfl, rfl, .inl ⟨by decide, by decide⟩, _, rfl, _, _, _, _, rfl, rfl, SqL.of hp2, rfl, _, _, rfl, rfl, .inl ⟨by omega, by omega⟩, _, _, rfl, rfl, _, _, rfl, rfl, .inl ⟨_, rfl, _, _, rfl, rfl, ?pow, .inl ⟨_, rfl, _, rfl, _, _, rfl, rfl, (by omega), ?_⟩⟩⟩
      case pow => exact cpow_of (by rw [e9]; omega) (by rw [e9]; omega)
      generalize (y + 93101 * (z + 1) * (z + 1) + 71) ^ (3 : Int).toNat = bb
      have mb : 0 ≤ bb.fmod pr ∧ bb.fmod pr < pr := ⟨Int.fmod_nonneg_of_pos _ (by omega), Int.fmod_lt_of_pos _ (by omega)⟩
      refine ⟨_, rfl, _, rfl, .inl ⟨_, rfl, _, _, rfl, rfl, (by show (_ : Int) ≠ 0; decide), _, rfl, _, _, _, _, rfl, rfl, SqL.of hp2, rfl, _, _, rfl, rfl, .inl ⟨by decide, by decide⟩, _, _, rfl, rfl, _, _, rfl, rfl, .inl ⟨by omega, by omega⟩, _, _, rfl, rfl, ⟨by decide, by decide⟩, .inl ⟨_, rfl, _, rfl, _, _, rfl, rfl, (by omega), ?_⟩⟩⟩
      exact q _ _ (Int.fmod_nonneg_of_pos _ (by omega)) (Int.fmod_lt_of_pos _ (by omega)) ⟨keep, _, _, _, hp2, ⟨hx0, hx1⟩, ⟨hy0, hy1⟩, by omega, by omega⟩
theorem ok__law_of {fd : FuncData} (F : Fun K "_law_of" "_law_of" s__law_of a._law_of fd) (T : Txt K mg a)
    {fd__law_take : FuncData} (G__law_take : Fn P w K mg base CX0 1 a._law_take fd__law_take ["_law_pot_here", "_law_upto"] spTake) (b__law_take : Binds K fd__law_take ["_law_pot_here", "_law_upto"] []) :
    Fn P w K mg base CX0 2 a._law_of fd ["_law_pot_here", "_law_some_here"] spOf := by
  refine ok F sc__law_of (fun vs H Q E h => ?len) (fun cdv A outer s H vs Q E hq hr h => ⟨_,
      (pss_one (ps_ret (pe_ix ix_list (pv 1) (pe_fn G__law_take hq (hr.mono (by omega)) (by rfl) T.g__law_take T.k__law_take b__law_take .nil pass0 (pa_cons (pv 0) (pa_cons (pe_callB call_len_seq (by rfl) T.n_len (by decide +kernel) (pa_cons (pv 1) pa_nil)) pa_nil))) (fun _ _ => rfl)))), ?body⟩)
  case len => obtain ⟨p, s, n, xs, rfl, _⟩ := h; rfl
  case body =>
    obtain ⟨p, s, n, xs, rfl, hsp, pot, hn, hs, hne, hz, q⟩ := h
    have h1 : 1 ≤ xs.length := List.length_pos_iff.mpr hne
    refine ⟨_, rfl, _, rfl, _, rfl, _, _, rfl, .inl (SqL.of hs), ?_⟩
    refine ⟨p, _, n, rfl, pot, hn, by omega, by omega, fun d H1 d0 d1 g => ?_⟩
    have hd : d.toNat < xs.length := by omega
    refine ⟨_, _, _, _, rfl, rfl, SqL.of (g.at hs hsp), at_of (j := d.toNat) (by omega) (List.getElem?_eq_getElem hd), ?_⟩
    exact q _ _ (List.getElem_mem hd) g
theorem ok__law_places {fd : FuncData} (F : Fun K "_law_places" "_law_places" s__law_places a._law_places fd) (T : Txt K mg a) :
    Fn P w K mg base CX0 1 a._law_places fd ["_law_script", "_law_most"] (spPlaces K) := by
  refine ok F sc__law_places (fun vs H Q E h => ?len) (fun cdv A outer s H vs Q E hq hr h => ⟨_,
      (pss_one (ps_ret (pe_listRg rfl (by rfl) T.n_list (prg_1 (by rfl) T.n_range (pe_callB (call_max2 rfl) (by rfl) T.n_max (by decide +kernel) (pa_cons pe_int (pa_cons (pe_callB (call_min2 rfl) (by rfl) T.n_min (by decide +kernel) (pa_cons (pv 1) (pa_cons (pe_callB call_len_seq (by rfl) T.n_len (by decide +kernel) (pa_cons (pv 0) pa_nil)) pa_nil))) pa_nil))))))), ?body⟩)
  case len => obtain ⟨s, ns, m, rfl, _⟩ := h; rfl
  case body =>
    obtain ⟨s, ns, m, rfl, hs, hl, hm0, hm1, q⟩ := h
    refine ⟨_, rfl, _, rfl, _, _, rfl, .inl hs, _, _, rfl, _, _, rfl, _, rfl, RgOk.of_le (by decide) (by rw [List.length_map]; split <;> split <;> omega) (by decide) (by split <;> split <;> omega), fun l h1 => ?_⟩
    obtain ⟨k, ek, hk⟩ : ∃ k : Nat, (if (if ((ns.map V.int).length : Int) < m then ((ns.map V.int).length : Int) else m) > 1 then (if ((ns.map V.int).length : Int) < m then ((ns.map V.int).length : Int) else m) else 1) = (k : Int) ∧ (k : Int) ≤ m := by
      refine ⟨_, (Int.toNat_of_nonneg ?_).symm, ?_⟩
      · split <;> split <;> omega
      · rw [Int.toNat_of_nonneg (by split <;> split <;> omega)]
        split <;> split <;> omega
    refine q l k _ h1 (fun b o z => by rw [upd_ne (ne_of_none z h1)]; exact z) hk (Eq.trans upd_same ?_)
    rw [← ek]
end
end My

namespace My
open PySem PySem.Spec PyProof.Rows L2 G
abbrev s__law_odd : Stmt := topS 45
theorem sc__law_odd : FnScope ["_law_pot_here", "_law_some_here"] ["_law_pot_here"] (defScope s__law_odd) := ⟨rfl, rfl, rfl, by decide +kernel, rfl, by decide +kernel, by decide +kernel⟩

theorem gd_dict1 {n k N : Nat} {x : Str} {d : PyData} (g : Gd n k d) (hx : gdB 8 0 (.str x) = true) (hN : 8 + n + 2 ≤ N) : Gd N (k + 1) (.dict [(.str x, d)]) := by
  have h := gdB_ok hx
  refine ⟨?_, ?_, ?_, ?_⟩
  · simp only [PyData.leavesShort, PyData.leavesShortKv, Bool.and_true, Bool.and_eq_true]; exact ⟨h.short, g.short⟩
  · simp only [PyData.showable, PyData.showableKv, Bool.and_true, Bool.and_eq_true]; exact ⟨trivial, g.show_⟩
  · simp only [PyData.depth, PyData.depthKv]; have := g.depth; omega
  · simp only [PyData.weight, PyData.weightKv]; have := g.weight; have := h.weight; simp only [PyData.weight] at this; omega
/-- what an odd value is: short data, a text of a few signs -/
def OddG (d : PyData) : Prop := Gd 60 4 d ∧ ∀ z, d = .str z → z.length ≤ 6
def spOdd0 : Sp := fun vs H Q _ => ∃ (p : Addr) (n : Nat), vs = [.ref p] ∧ PotAt H p n ∧ n ≤ 100000 ∧ ∀ v H', (∀ N, Tr N H → Is N H' OddG v) → Go p (n + 1) H H' → Q v H'
local macro_rules | `(tactic| walk_at "gd") => `(tactic| exact gdB_ok (by decide +kernel))
local macro_rules | `(tactic| walk_at "ev") => `(tactic| repeat (first
  | exact eva_nil
  | apply eva_cons
  | exact evg_int (gdB_ok (by decide +kernel))
  | exact evg_str (gdB_ok (by decide +kernel))
  | exact evg_bl (gdB_ok (by decide +kernel))
  | exact evg_non (gdB_ok (by decide +kernel))
  | exact evg_neg (gdB_ok (by decide +kernel))
  | exact evg_pow ⟨by decide, by decide, by decide +kernel⟩ (gdB_ok (by decide +kernel))
  | exact evg_dnew (by assumption) (gdB_ok (by decide +kernel))
  | (apply evg_tup (G' := Gd 8 3); (case h => walk_at "ev"); (case t => assumption); (case hm => decide); (case g => exact fun ds l h => gd_tup h (Nat.le_of_eq l) (by decide)))
  | (apply evg_tup (G' := Gd 3 2); (case h => walk_at "ev"); (case t => assumption); (case hm => decide); (case g => exact fun ds l h => gd_tup h (Nat.le_of_eq l) (by decide)))
  | (apply evg_lst (G' := Gd 8 3); (case h => walk_at "ev"); (case t => assumption); (case hm => decide); (case g => exact fun ds l h => gd_lst h (Nat.le_of_eq l) (by decide)))
  | exact evg_dict1 (G' := Gd 8 3) (by assumption) (fun q H1 S => evg_int (gdB_ok (by decide +kernel))) (fun d g => gd_dict1 g (by decide +kernel) (by decide))))

local macro_rules | `(tactic| walk_at "evz") => `(tactic| repeat (first
  | exact eva_nil
  | apply eva_cons
  | exact evg_int ⟨gdB_ok (by decide +kernel), fun i e => nomatch e⟩
  | exact evg_str ⟨gdB_ok (by decide +kernel), fun i e => by cases e; decide⟩
  | exact evg_bl ⟨gdB_ok (by decide +kernel), fun i e => nomatch e⟩
  | exact evg_non ⟨gdB_ok (by decide +kernel), fun i e => nomatch e⟩
  | exact evg_neg ⟨gdB_ok (by decide +kernel), fun i e => nomatch e⟩
  | exact evg_pow ⟨by decide, by decide, by decide +kernel⟩ ⟨gdB_ok (by decide +kernel), fun i e => nomatch e⟩
  | exact evg_dnew (by assumption) ⟨gdB_ok (by decide +kernel), fun i e => nomatch e⟩
  | (apply evg_tup (G' := Gd 8 3); (case h => walk_at "ev"); (case t => assumption); (case hm => decide); (case g => exact fun ds l h => ⟨gd_tup h (Nat.le_of_eq l) (by decide), fun i e => nomatch e⟩))
  | (apply evg_tup (G' := Gd 3 2); (case h => walk_at "ev"); (case t => assumption); (case hm => decide); (case g => exact fun ds l h => ⟨gd_tup h (Nat.le_of_eq l) (by decide), fun i e => nomatch e⟩))
  | (apply evg_lst (G' := Gd 8 3); (case h => walk_at "ev"); (case t => assumption); (case hm => decide); (case g => exact fun ds l h => ⟨gd_lst h (Nat.le_of_eq l) (by decide), fun i e => nomatch e⟩))
  | exact evg_dict1 (G' := Gd 8 3) (by assumption) (fun q H1 S => evg_int (gdB_ok (by decide +kernel))) (fun d g => ⟨gd_dict1 g (by decide +kernel) (by decide), fun i e => nomatch e⟩)))
section
variable {P : Program} {w : World} {K : PySem.W.Frag} {mg : Str → Option Value} {base : Heap} {a : Ad}
theorem ok__law_odd {fd : FuncData} (F : Fun K "_law_odd" "_law_odd" s__law_odd a._law_odd fd) (T : Txt K mg a)
    {fd__law_of : FuncData} (G__law_of : Fn P w K mg base CX0 2 a._law_of fd__law_of ["_law_pot_here", "_law_some_here"] spOf) (b__law_of : Binds K fd__law_of ["_law_pot_here", "_law_some_here"] []) :
    Fn P w K mg base CX0 3 a._law_odd fd ["_law_pot_here"] spOdd0 := by
  refine ok F sc__law_odd (fun vs H Q E h => ?len) (fun cdv A outer s H vs Q E hq hr h => ⟨_,
      (pss_cons (ps_set (i := 1) sc__law_odd.nd rfl (Or.inl rfl) (pe_lstS (pa_cons pe_non (pa_cons pe_bl (pa_cons pe_bl (pa_cons pe_int (pa_cons pe_int (pa_cons (pe_un un_neg pe_int) (pa_cons pe_int (pa_cons pe_int (pa_cons pe_str (pa_cons pe_str (pa_cons pe_str (pa_cons pe_str (pa_cons (pe_tup pa_nil) (pa_cons (pe_lstS pa_nil) (pa_cons pe_dnewK (pa_cons (pe_tup (pa_cons pe_int pa_nil)) (pa_cons (pe_tup (pa_cons (pe_tup pa_nil) pa_nil)) (pa_cons (pe_lstS (pa_cons pe_int pa_nil)) (pa_cons (pe_tup (pa_cons pe_str (pa_cons pe_int pa_nil))) (pa_cons (pe_disp (pps_cons pe_str pe_int pps_nil) (by rfl) (by rfl) (fun z => by cases z) (by decide)) pa_nil))))))))))))))))))))))
      (pss_one (ps_ret (pe_fn G__law_of hq (hr.mono (by omega)) (by rfl) T.g__law_of T.k__law_of b__law_of .nil pass0 (pa_cons (pv 0) (pa_cons (pe_op op_cat (pv 1) (pe_lstS (pa_cons (pe_tup (pa_cons (pe_tup (pa_cons pe_str pa_nil)) pa_nil)) (pa_cons (pe_tup (pa_cons pe_str (pa_cons pe_str pa_nil))) (pa_cons (pe_tup (pa_cons pe_int (pa_cons pe_int pa_nil))) (pa_cons (pe_tup (pa_cons (pe_tup (pa_cons pe_int (pa_cons pe_int pa_nil))) pa_nil)) (pa_cons (pe_tup (pa_cons pe_non pa_nil)) (pa_cons (pe_op op_powW pe_int pe_int) (pa_cons pe_str (pa_cons (pe_tup (pa_cons pe_bl pa_nil)) (pa_cons (pe_tup (pa_cons pe_int (pa_cons (pe_un un_neg pe_int) (pa_cons pe_int pa_nil)))) pa_nil))))))))))) pa_nil)))))), ?body⟩)
  case len => obtain ⟨p, n, rfl, _⟩ := h; rfl
  case body =>
    obtain ⟨p, n, rfl, pot, hn, q⟩ := h
    have t : Tr (fun b => H b ≠ none) H := fun _ h => h
    refine s_set (eva_list (G := OddG) (m := 20) t ?ev1 (by decide) fun l xs H1 S1 nl hl sl ll hx => ?_)
    case ev1 => walk_at "evz"
    have t1 : Tr (fun b => H b ≠ none) H1 := t.same S1
    refine ⟨_, rfl, _, rfl, ?_⟩
    refine eva_list (G := OddG) (m := 9) t1 ?ev2 (by decide) fun l2 ys H2 S2 nl2 hl2 sl2 ll2 hy => ?_
    case ev2 => walk_at "evz"
    refine ⟨_, _, _, _, rfl, rfl, S2 _ _ hl, hl2, by rw [ll, ll2]; decide, fun l3 n3 => ?_⟩
    have pot3 : PotAt (upd H2 l3 (.lst (xs ++ ys))) p n := ((pot.same S1).same S2).same (same_new n3)
    have n3p : l3 ≠ p := fun e => by
      rw [e] at n3
      exact ((pot.same S1).same S2).has n3
    refine ⟨p, l3, n, xs ++ ys, rfl, n3p, pot3, hn, upd_same, (by intro e; have z := congrArg List.length e; rw [List.length_append, ll, ll2] at z; exact absurd z (by decide)), by rw [List.length_append, ll, ll2]; decide, fun x H4 hm g => ?_⟩
    refine q x H4 (fun N tN => ?_) (Go.of ((S1.trans S2).trans (same_new n3)) g)
    have hx3 : Is (fun b => H b ≠ none) (upd H2 l3 (.lst (xs ++ ys))) OddG x := by
      rcases List.mem_append.mp hm with z | z
      · exact ((hx x z).same S2).same (same_new n3)
      · exact (hy x z).same (same_new n3)
    exact (g.is pot.has hx3).less tN
end
end My

namespace My
open PySem PySem.Spec PyProof.Rows L2 G
abbrev s_is_integer : Stmt := topS 12
theorem sc_is_integer : FnScope ["value"] ["value"] (defScope s_is_integer) := ⟨rfl, rfl, rfl, by decide +kernel, rfl, by decide +kernel, by decide +kernel⟩

abbrev s_is_number : Stmt := topS 13
theorem sc_is_number : FnScope ["value"] ["value"] (defScope s_is_number) := ⟨rfl, rfl, rfl, by decide +kernel, rfl, by decide +kernel, by decide +kernel⟩

abbrev s_Ratio___init__ : Stmt := inClass (topS 20) 0
theorem sc_Ratio___init__ : FnScope ["self", "number", "under", "common"] ["self", "number", "under"] (defScope s_Ratio___init__) := ⟨rfl, rfl, rfl, by decide +kernel, rfl, by decide +kernel, by decide +kernel⟩

abbrev s_as_ratio : Stmt := topS 14
theorem sc_as_ratio : FnScope ["number"] ["number"] (defScope s_as_ratio) := ⟨rfl, rfl, rfl, by decide +kernel, rfl, by decide +kernel, by decide +kernel⟩

abbrev s_Ratio___eq__ : Stmt := inClass (topS 20) 16
theorem sc_Ratio___eq__ : FnScope ["self", "other"] ["self", "other"] (defScope s_Ratio___eq__) := ⟨rfl, rfl, rfl, by decide +kernel, rfl, by decide +kernel, by decide +kernel⟩

abbrev ratFs (n u : Int) : List (Str × V) := [("number", .int n), ("under", .int u)]
/-- a Ratio -/
def RatAt (C : Addr) (H : Hp) (v : V) (n u : Int) : Prop := ∃ a dx, v = .ref a ∧ H a = some (.ins C dx (ratFs n u))
theorem RatAt.same {C : Addr} {H H' : Hp} {v : V} {n u : Int} (S : Same H H') (h : RatAt C H v n u) : RatAt C H' v n u := let ⟨a, dx, e, h1⟩ := h; ⟨a, dx, e, S _ _ h1⟩
/-- a number: a Ratio or an int -/
def NumAt (C : Addr) (H : Hp) (v : V) (n u : Int) : Prop := (v = .int n ∧ u = 1) ∨ RatAt C H v n u
theorem NumAt.same {C : Addr} {H H' : Hp} {v : V} {n u : Int} (S : Same H H') (h : NumAt C H v n u) : NumAt C H' v n u := h.imp id fun h => h.same S
/-- the Ratio of a fraction -/
abbrev RatQ (C : Addr) (H : Hp) (v : V) (q : Rat) : Prop := RatAt C H v q.num (q.den : Int)
abbrev NumQ (C : Addr) (H : Hp) (v : V) (q : Rat) : Prop := NumAt C H v q.num (q.den : Int)
def CDivZ (_ j : Int) : Prop := j ≠ 0 ∧ j.natAbs.log2 < 9000
theorem op_fdivZ {X : Cx} : OpR X (binaryOp .FloorDiv) (rI CDivZ fun i j => .int (i.fdiv j)) := opI fun _ _ _ _ _ _ _ hc q => floordiv_int hc.1 q (.inl (PyProof.noPylong_of_log2 hc.2))
/-- an int that may divide -/
def Ud (u : Int) : Prop := u.natAbs < 2 ^ 8000
theorem log_of {u : Int} (h : Ud u) : u.natAbs.log2 < 9000 := Nat.lt_of_lt_of_le (PySem.Flt.log2_lt_of (k := 8000) (by decide) h) (by decide)
theorem cw {i j : Int} (h : Ud i) (h' : Ud j) : CMulW i j := wide_mul (a := 8000) (b := 8000) h h' (by decide) (by decide) (by decide)
theorem wd_ud {i : Int} (h : Wd i) : Ud i := Nat.lt_of_lt_of_le (m := 2 ^ 2000) h (Nat.pow_le_pow_right (by decide) (by decide))
theorem wd_mul {i j : Int} (h : Wd i) (h' : Wd j) : (i * j).natAbs < 2 ^ 4000 := by
  rw [show 4000 = 2000 + 2000 by rfl]
  exact wide_lt h h'
theorem wd_ud2 {i j : Int} (h : Wd i) (h' : Wd j) : Ud (i * j) := Nat.lt_of_lt_of_le (wd_mul h h') (Nat.pow_le_pow_right (by decide) (by decide))
def spIsInt (K : PySem.W.Frag) : Sp := fun vs H Q _ => ∃ v t b1 b2, vs = [v] ∧ TyX K H v t ∧ PySem.W.kitOne K t (.type "int") = some b1 ∧ PySem.W.kitOne K t (.type "bool") = some b2 ∧ Q (.bl (b1 && !b2)) H
def spIsNum (K : PySem.W.Frag) (C : Addr) : Sp := fun vs H Q _ => ∃ v t b1 b2 b3, vs = [v] ∧ TyX K H v t ∧ PySem.W.kitOne K t (.type "int") = some b1 ∧ PySem.W.kitOne K t (.type "bool") = some b2 ∧ PySem.W.kitOne K t (.ref C) = some b3 ∧ Q (.bl ((b1 && !b2) || b3)) H
def spInit (K : PySem.W.Frag) (C : Addr) : Sp := fun vs H Q _ => ∃ x dx n u, vs = [.ref x, .int n, .int u] ∧ u ≠ 0 ∧ Ud u ∧ H x = some (.ins C dx []) ∧ Q .non (upd H x (.ins C dx (ratFs (rNum n u) (rUnd n u))))
def spAs (K : PySem.W.Frag) (C : Addr) : Sp := fun vs H Q _ => ∃ v n u, vs = [v] ∧ NumAt C H v n u ∧ ∀ w H', Same H H' → RatAt C H' w n u → Q w H'
def spDiff (C : Addr) : Sp := fun vs H Q _ => ∃ v w n u m t, vs = [v, w] ∧ RatAt C H v n u ∧ RatAt C H w m t ∧ Wd n ∧ Wd u ∧ Wd m ∧ Wd t ∧ Q (.int (n * t - m * u)) H
def gAdd (x y : Rat) : Rat := x + y
def gSub (x y : Rat) : Rat := x - y
def gMul (x y : Rat) : Rat := x * y
def gDiv (x y : Rat) : Rat := x / y
/-- self op other: a new Ratio -/
def spBin (C : Addr) (f : Rat → Rat → Rat) : Sp := fun vs H Q _ => ∃ v w x y, vs = [v, w] ∧ RatQ C H v x ∧ NumQ C H w y ∧ Wq x ∧ Wq y ∧ ∀ z H', Same H H' → RatQ C H' z (f x y) → Q z H'
def spBin0 (C : Addr) (f : Rat → Rat → Rat) : Sp := fun vs H Q _ => ∃ v w x y, vs = [v, w] ∧ RatQ C H v x ∧ NumQ C H w y ∧ Wq x ∧ Wq y ∧ y ≠ 0 ∧ ∀ z H', Same H H' → RatQ C H' z (f x y) → Q z H'
theorem numTy {K : PySem.W.Frag} {mg : Str → Option Value} {a : Ad} (T : Txt K mg a) {H : Hp} {v : V} {n u : Int} (h : NumAt a.Ratio H v n u) :
    ∃ ty b1 b2 b3, TyX K H v ty ∧ PySem.W.kitOne K ty (.type "int") = some b1 ∧ PySem.W.kitOne K ty (.type "bool") = some b2 ∧ PySem.W.kitOne K ty (.ref a.Ratio) = some b3 ∧ ((b1 && !b2) || b3) = true := by
  rcases h with ⟨rfl, _⟩ | ⟨x, dx, rfl, e⟩
  · exact ⟨_, true, false, false, .base (.int _), kit_ty (by decide +kernel), kit_ty (by decide +kernel), T.ri.kt _ (by simp), rfl⟩
  · exact ⟨_, false, false, true, .base (.ins e T.cl T.ri.ca T.ri.cn T.ri.ct T.ri.cm), T.ri.ki, T.ri.kb, T.ri.ks, rfl⟩
theorem ratTy {K : PySem.W.Frag} {mg : Str → Option Value} {a : Ad} (T : Txt K mg a) {H : Hp} {v : V} {n u : Int} (h : RatAt a.Ratio H v n u) : TyX K H v (.ref a.Ratio) := by
  obtain ⟨x, dx, rfl, e⟩ := h
  exact .base (.ins e T.cl T.ri.ca T.ri.cn T.ri.ct T.ri.cm)
/-- what is no Ratio -/
def NotR (K : PySem.W.Frag) (C : Addr) (H : Hp) (w : V) : Prop := ∃ t, TyX K H w t ∧ PySem.W.kitOne K t (.ref C) = some false
def spEqq (K : PySem.W.Frag) (C : Addr) : Sp := fun vs H Q _ => ∃ v w n u, vs = [v, w] ∧ RatAt C H v n u ∧ ((∃ m t, RatAt C H w m t ∧ Q (.bl (decide (n = m ∧ u = t))) H) ∨ (NotR K C H w ∧ Q (.bl false) H))
/-- what C(n, u) asks -/
theorem mk_rat {K : PySem.W.Frag} {C : Addr} {H : Hp} {n u : Int} {Q : VK} (h0 : u ≠ 0) (h1 : Ud u) (q : ∀ w H', Same H H' → RatAt C H' w (rNum n u) (rUnd n u) → Q w H') :
    ∀ x dx, H x = none → H dx = none → dx ≠ x → spInit K C [.ref x, .int n, .int u] (upd (upd H dx (.own x)) x (.ins C dx [])) (fun v H2 => v = .non ∧ Q (.ref x) H2) E0 := by
  intro x dx hx hdx ne
  refine ⟨x, dx, n, u, rfl, h0, h1, upd_same, rfl, q _ _ (fun b o e => ?_) ⟨x, dx, rfl, upd_same⟩⟩
  rw [upd_ne (ne_of_none e hx), upd_ne (ne_of_none e hx), upd_ne (ne_of_none e hdx)]
  exact e
theorem mk_q {K : PySem.W.Frag} {C : Addr} {H : Hp} {n u : Int} {Q : VK} (h0 : u ≠ 0) (h1 : Ud u) (q : ∀ w H', Same H H' → RatQ C H' w (Rat.divInt n u) → Q w H') :
    ∀ x dx, H x = none → H dx = none → dx ≠ x → spInit K C [.ref x, .int n, .int u] (upd (upd H dx (.own x)) x (.ins C dx [])) (fun v H2 => v = .non ∧ Q (.ref x) H2) E0 :=
  mk_rat h0 h1 fun w H' S r => q w H' S (by rw [(rq h0).1, (rq h0).2] at r; exact r)
section
variable {P : Program} {w : World} {K : PySem.W.Frag} {mg : Str → Option Value} {base : Heap} {a : Ad}
theorem ok_is_integer {fd : FuncData} (F : Fun K "is_integer" "is_integer" s_is_integer a.is_integer fd) (T : Txt K mg a) :
    FnOk P w K mg base CX0 1 a.is_integer fd ["value"] (spIsInt K) := by
  refine F.ok sc_is_integer (fun vs H Q E h => ?len) (fun cdv A outer s H vs Q E hr h => ⟨_,
      (pss_one (ps_ret (pe_and (pe_callB call_isi (by rfl) T.n_isinstance (by decide +kernel) (pa_cons (pv 0) (pa_cons (pe_bltn (v := .ty "int") (u := .type "int") (by rfl) T.n_int (by decide +kernel) rfl) pa_nil))) (pe_one (pe_not (pe_callB call_isi (by rfl) T.n_isinstance (by decide +kernel) (pa_cons (pv 0) (pa_cons (pe_bltn (v := .ty "bool") (u := .type "bool") (by rfl) T.n_bool (by decide +kernel) rfl) pa_nil)))))))), ?body⟩)
  case len => obtain ⟨v, t, b1, b2, rfl, _⟩ := h; rfl
  case body =>
    obtain ⟨v, t, b1, b2, rfl, ty, k1, k2, q⟩ := h
    refine ⟨_, rfl, _, _, _, _, b1, rfl, .ty _, ty, k1, b1, rfl, ?_⟩
    cases b1
    · exact iteF q
    · exact iteT ⟨_, rfl, _, _, _, _, b2, rfl, .ty _, ty, k2, b2, rfl, q⟩
theorem ok_is_number {fd : FuncData} (F : Fun K "is_number" "is_number" s_is_number a.is_number fd) (T : Txt K mg a)
    {fd_is_integer : FuncData} (G_is_integer : FnOk P w K mg base CX0 1 a.is_integer fd_is_integer ["value"] (spIsInt K)) (b_is_integer : Binds K fd_is_integer ["value"] []) :
    FnOk P w K mg base CX0 2 a.is_number fd ["value"] (spIsNum K a.Ratio) := by
  refine F.ok sc_is_number (fun vs H Q E h => ?len) (fun cdv A outer s H vs Q E hr h => ⟨_,
      (pss_one (ps_ret (pe_or (pe_call G_is_integer (hr.mono (by omega)) (by rfl) T.g_is_integer T.k_is_integer b_is_integer .nil pass0 (pa_cons (pv 0) pa_nil)) (pe_one (pe_callB call_isi (by rfl) T.n_isinstance (by decide +kernel) (pa_cons (pv 0) (pa_cons (pe_glob (v := .ref a.Ratio) (by rfl) T.g_Ratio rfl) pa_nil))))))), ?body⟩)
  case len => obtain ⟨v, t, b1, b2, b3, rfl, _⟩ := h; rfl
  case body =>
    obtain ⟨v, t, b1, b2, b3, rfl, ty, k1, k2, k3, q⟩ := h
    refine ⟨_, rfl, v, t, b1, b2, rfl, ty, k1, k2, (b1 && !b2), rfl, ?_⟩
    cases hb : (b1 && !b2)
    · rw [hb] at q
      exact iteF ⟨_, rfl, _, _, _, _, b3, rfl, .own _, ty, k3, q⟩
    · rw [hb] at q
      exact iteT q
theorem ok_Ratio___init__ {fd : FuncData} (F : FunD K "__init__" "Ratio.__init__" (defArgs s_Ratio___init__) (defBody s_Ratio___init__) (defScope s_Ratio___init__) [.int 1] [] a.Ratio___init__ fd) (T : Txt K mg a)
    {fd_is_integer : FuncData} (G_is_integer : FnOk P w K mg base CX0 1 a.is_integer fd_is_integer ["value"] (spIsInt K)) (b_is_integer : Binds K fd_is_integer ["value"] []) :
    FnOk P w K mg base CX0 2 a.Ratio___init__ fd ["self", "number", "under"] (spInit K a.Ratio) := by
  refine F.ok sc_Ratio___init__ (fun vs H Q E h => ?len) (fun cdv A outer s H vs Q E hr h => ⟨_,
      (pss_cons (ps_if (PW.pt (pw_or (pt_not (pt_val (pe_call G_is_integer (hr.mono (by omega)) (by rfl) T.g_is_integer T.k_is_integer b_is_integer .nil pass0 (pa_cons (pv 1) pa_nil)))) (pw_or (pt_not (pt_val (pe_call G_is_integer (hr.mono (by omega)) (by rfl) T.g_is_integer T.k_is_integer b_is_integer .nil pass0 (pa_cons (pv 2) pa_nil)))) (pw_or1 (pt_cmpR op_eq (pv 2) pe_int (nomark _)))))) (pss_one ps_never) pss_nil)
      (pss_cons (ps_set (i := 3) sc_Ratio___init__.nd rfl (Or.inl rfl) (pe_ifExp (pt_cmpR op_gt (pv 2) pe_int (nomark _)) (pe_callBfun cr_gcd (by rfl) T.g_gcd (pa_cons (pv 1) (pa_cons (pv 2) pa_nil))) (pe_un un_neg (pe_callBfun cr_gcd (by rfl) T.g_gcd (pa_cons (pv 1) (pa_cons (pv 2) pa_nil))))))
      (pss_cons (ps_fld (pv 0) (pe_op op_fdivZ (pv 1) (pv 3)) rfl)
      (pss_one (ps_fld (pv 0) (pe_op op_fdivZ (pv 2) (pv 3)) rfl))))), ?body⟩)
  case len => obtain ⟨x, dx, n, u, rfl, _⟩ := h; rfl
  case body =>
    obtain ⟨x, dx, n, u, rfl, h0, h1, hx, q⟩ := h
    refine ⟨_, rfl, .int n, .type "int", true, false, rfl, .base (.int _), kit_ty (by decide +kernel), kit_ty (by decide +kernel), _, rfl, iteF ?_⟩
    refine ⟨_, rfl, .int u, .type "int", true, false, rfl, .base (.int _), kit_ty (by decide +kernel), kit_ty (by decide +kernel), _, rfl, iteF ?_⟩
    refine ⟨_, rfl, rfl, _, rfl, ite2 (fun c => ?_) (fun c => ?_)⟩
    · exact absurd (of_decide_eq_true c) (by intro z; injection z with z; exact h0 z)
    have hb : byOf n u ≠ 0 := byOf_ne h0
    have hl : (byOf n u).natAbs.log2 < 9000 := log_of (show (byOf n u).natAbs < 2 ^ 8000 from Nat.lt_of_le_of_lt (byOf_le h0) h1)
    have fin : ∀ g : Int, g = byOf n u → Q .non (upd (upd H x (.ins a.Ratio dx [("number", .int (n.fdiv g))])) x (.ins a.Ratio dx [("number", .int (n.fdiv g)), ("under", .int (u.fdiv g))])) := fun g e => by
      rw [upd_upd, e]
      exact q
    refine ⟨_, rfl, _, _, rfl, rfl, _, rfl, ite2 (fun c2 => ?_) (fun c2 => ?_)⟩
    · have hu : 0 < u := of_decide_eq_true c2
      have e : ((Nat.gcd n.natAbs u.natAbs : Nat) : Int) = byOf n u := by
        unfold byOf
        rw [if_neg (by omega)]
      refine ⟨_, rfl, _, rfl, _, _, rfl, ?_⟩
      refine ⟨_, rfl, _, rfl, _, _, rfl, rfl, ⟨by rw [e]; exact hb, by rw [e]; exact hl⟩, _, rfl, _, _, _, _, rfl, hx, T.cl, T.nN, by decide, ?_⟩
      refine ⟨_, rfl, _, rfl, _, _, rfl, rfl, ⟨by rw [e]; exact hb, by rw [e]; exact hl⟩, _, rfl, _, _, _, _, rfl, upd_same, T.cl, T.nU, (by show 1 < 1000; decide), ?_⟩
      exact fin _ e
    · have hu : ¬ 0 < u := fun z => c2 (decide_eq_true z)
      have e : -((Nat.gcd n.natAbs u.natAbs : Nat) : Int) = byOf n u := by
        unfold byOf
        rw [if_pos (by omega)]
      refine ⟨_, rfl, _, rfl, _, _, rfl, _, rfl, ?_⟩
      refine ⟨_, rfl, _, rfl, _, _, rfl, rfl, ⟨by rw [e]; exact hb, by rw [e]; exact hl⟩, _, rfl, _, _, _, _, rfl, hx, T.cl, T.nN, by decide, ?_⟩
      refine ⟨_, rfl, _, rfl, _, _, rfl, rfl, ⟨by rw [e]; exact hb, by rw [e]; exact hl⟩, _, rfl, _, _, _, _, rfl, upd_same, T.cl, T.nU, (by show 1 < 1000; decide), ?_⟩
      exact fin _ e
theorem ok_as_ratio {fd : FuncData} (F : Fun K "as_ratio" "as_ratio" s_as_ratio a.as_ratio fd) (T : Txt K mg a)
    {fd_Ratio___init__ : FuncData} (G_Ratio___init__ : FnOk P w K mg base CX0 2 a.Ratio___init__ fd_Ratio___init__ ["self", "number", "under"] (spInit K a.Ratio)) (b_Ratio___init__ : Binds K fd_Ratio___init__ ["self", "number", "under"] [])
    {ds_Ratio___init__ : List Value} (d_Ratio___init__ : Vals [.int 1] ds_Ratio___init__ ∧ Binds K fd_Ratio___init__ ["self", "number", "under"] ds_Ratio___init__) :
    FnOk P w K mg base CX0 4 a.as_ratio fd ["number"] (spAs K a.Ratio) := by
  refine F.ok sc_as_ratio (fun vs H Q E h => ?len) (fun cdv A outer s H vs Q E hr h => ⟨_,
      (pss_one (ps_ret (pe_ifExp (pt_val (pe_callB call_isi (by rfl) T.n_isinstance (by decide +kernel) (pa_cons (pv 0) (pa_cons (pe_glob (v := .ref a.Ratio) (by rfl) T.g_Ratio rfl) pa_nil)))) (pv 0) (pe_make T.m_Ratio G_Ratio___init__ (hr.mono (by omega)) (by rfl) T.g_Ratio d_Ratio___init__.2 d_Ratio___init__.1 pass0 (pa_cons (pv 0) pa_nil))))), ?body⟩)
  case len => obtain ⟨v, n, u, rfl, _⟩ := h; rfl
  case body =>
    obtain ⟨v, n, u, rfl, hv, q⟩ := h
    rcases hv with ⟨rfl, rfl⟩ | hv
    · refine ⟨_, rfl, _, _, _, _, false, rfl, .own _, .base (.int _), T.ri.kt _ (by simp), _, rfl, iteF ?_⟩
      refine ⟨_, rfl, mk_rat (by decide) (show (1 : Int).natAbs < 2 ^ 8000 by decide +kernel) fun w H' S hw => q w H' S ?_⟩
      rw [(red_int n).same.1, (red_int n).same.2] at hw
      exact hw
    · refine ⟨_, rfl, _, _, _, _, true, rfl, .own _, ratTy T hv, T.ri.ks, _, rfl, iteT ?_⟩
      exact ⟨_, rfl, q v H (Same.refl _) hv⟩
theorem ok_Ratio___eq__ {fd : FuncData} (F : Fun K "__eq__" "Ratio.__eq__" s_Ratio___eq__ a.Ratio___eq__ fd) (T : Txt K mg a) :
    FnOk P w K mg base CX0 1 a.Ratio___eq__ fd ["self", "other"] (spEqq K a.Ratio) := by
  refine F.ok sc_Ratio___eq__ (fun vs H Q E h => ?len) (fun cdv A outer s H vs Q E hr h => ⟨_,
      (pss_one (ps_ret (pe_and (pe_callB call_isi (by rfl) T.n_isinstance (by decide +kernel) (pa_cons (pv 1) (pa_cons (pe_glob (v := .ref a.Ratio) (by rfl) T.g_Ratio rfl) pa_nil))) (pe_and (pe_cmpR op_eq (pe_fld (pv 0) rfl) (pe_fld (pv 1) rfl) (nomark _)) (pe_one (pe_cmpR op_eq (pe_fld (pv 0) rfl) (pe_fld (pv 1) rfl) (nomark _))))))), ?body⟩)
  case len => obtain ⟨v, w, n, u, rfl, _⟩ := h; rfl
  case body =>
    obtain ⟨v, w, n, u, rfl, ⟨x, dx, rfl, hx⟩, h⟩ := h
    rcases h with ⟨m, t, hw, q⟩ | ⟨⟨t, ty, k⟩, q⟩
    · refine ⟨_, rfl, w, _, _, _, true, rfl, .own _, ratTy T hw, T.ri.ks, true, rfl, iteT ?_⟩
      obtain ⟨y, dy, rfl, hy⟩ := hw
      refine ⟨_, rfl, _, _, _, _, _, rfl, hx, T.cl, T.nN, rfl, _, rfl, _, _, _, _, _, rfl, hy, T.cl, T.nN, rfl, rfl, _, rfl, ite2 (fun c => ?_) (fun c => ?_)⟩
      · have e1 : n = m := by
          have z := of_decide_eq_true c
          injection z with z
        refine ⟨_, rfl, _, _, _, _, _, rfl, hx, T.cl, T.nU, rfl, _, rfl, _, _, _, _, _, rfl, hy, T.cl, T.nU, rfl, rfl, ?_⟩
        have e2 : decide (V.int u = V.int t) = decide (n = m ∧ u = t) := by
          by_cases e : u = t
          · rw [decide_eq_true (show n = m ∧ u = t from ⟨e1, e⟩), decide_eq_true (by rw [e])]
          · rw [decide_eq_false (fun z : n = m ∧ u = t => e z.2), decide_eq_false (fun z => e (V.int.inj z))]
        rw [e2]
        exact q
      · have e1 : decide (n = m ∧ u = t) = false := decide_eq_false fun z => c (decide_eq_true (by rw [z.1]))
        rw [e1] at q
        exact q
    · refine ⟨_, rfl, w, _, _, _, false, rfl, .own _, ty, k, false, rfl, iteF q⟩
end
end My

namespace My
open PySem PySem.Spec PyProof.Rows L2 G
abbrev s_check_point : Stmt := topS 22
theorem sc_check_point : FnScope ["value"] ["value"] (defScope s_check_point) := ⟨rfl, rfl, rfl, by decide +kernel, rfl, by decide +kernel, by decide +kernel⟩

abbrev s_Point___init__ : Stmt := inClass (topS 24) 0
theorem sc_Point___init__ : FnScope ["self", "x", "y"] ["self", "x", "y"] (defScope s_Point___init__) := ⟨rfl, rfl, rfl, by decide +kernel, rfl, by decide +kernel, by decide +kernel⟩

abbrev s_Point___eq__ : Stmt := inClass (topS 24) 6
theorem sc_Point___eq__ : FnScope ["self", "other"] ["self", "other"] (defScope s_Point___eq__) := ⟨rfl, rfl, rfl, by decide +kernel, rfl, by decide +kernel, by decide +kernel⟩

abbrev ptFs (v w : V) : List (Str × V) := [("x", v), ("y", w)]
def PtQ (C CP : Addr) (H : Hp) (z : V) (X Y : Rat) : Prop := ∃ b dx v w, z = .ref b ∧ H b = some (.ins CP dx (ptFs v w)) ∧ RatQ C H v X ∧ RatQ C H w Y
theorem PtQ.same {C CP : Addr} {H H' : Hp} {z : V} {X Y : Rat} (S : Same H H') (h : PtQ C CP H z X Y) : PtQ C CP H' z X Y := let ⟨b, dx, v, w, e, h1, h2, h3⟩ := h; ⟨b, dx, v, w, e, S _ _ h1, h2.same S, h3.same S⟩
def spPInit (C CP : Addr) : Sp := fun vs H Q _ => ∃ p dx v w X Y, vs = [.ref p, v, w] ∧ H p = some (.ins CP dx []) ∧ NumQ C H v X ∧ NumQ C H w Y ∧ ∀ H', (∀ b o, b ≠ p → H b = some o → H' b = some o) → PtQ C CP H' (.ref p) X Y → Q .non H'
def spChk (K : PySem.W.Frag) (CP : Addr) : Sp := fun vs H Q _ => ∃ v t, vs = [v] ∧ TyX K H v t ∧ PySem.W.kitOne K t (.ref CP) = some true ∧ Q .non H
def spPEq (K : PySem.W.Frag) (C CP : Addr) : Sp := fun vs H Q _ => ∃ v w X Y X' Y', vs = [v, w] ∧ PtQ C CP H v X Y ∧ PtQ C CP H w X' Y' ∧ ∀ H', Same H H' → Q (.bl (decide (X = X' ∧ Y = Y'))) H'
theorem no_ins0 {C CP dx : Addr} : ∀ d f g, HO.ins CP dx [] ≠ .ins C d [("number", f), ("under", g)] := fun d f g z => nomatch (HO.ins.inj z).2.2
theorem no_ins1 {C CP dx : Addr} {s : Str} {v : V} : ∀ d f g, HO.ins CP dx [(s, v)] ≠ .ins C d [("number", f), ("under", g)] := fun d f g z => by
  have := congrArg List.length (HO.ins.inj z).2.2
  simp at this
theorem RatAt.off {C : Addr} {H H' : Hp} {v : V} {n u : Int} {p : Addr} (k : ∀ b o, b ≠ p → H b = some o → H' b = some o) (hp : ∃ o, H p = some o ∧ ∀ d f g, o ≠ .ins C d [("number", f), ("under", g)]) (h : RatAt C H v n u) : RatAt C H' v n u := by
  obtain ⟨b, d, e, h⟩ := h
  refine ⟨b, d, e, k b _ (fun z => ?_) h⟩
  obtain ⟨o, h1, h2⟩ := hp
  rw [z, h1] at h
  exact h2 _ _ _ (Option.some.inj h)
theorem NumAt.off {C : Addr} {H H' : Hp} {v : V} {n u : Int} {p : Addr} (k : ∀ b o, b ≠ p → H b = some o → H' b = some o) (hp : ∃ o, H p = some o ∧ ∀ d f g, o ≠ .ins C d [("number", f), ("under", g)]) (h : NumAt C H v n u) : NumAt C H' v n u := h.imp id fun h => h.off k hp
theorem PtQ.off {C CP : Addr} {H H' : Hp} {z : V} {X Y : Rat} {p : Addr} (k : ∀ b o, b ≠ p → H b = some o → H' b = some o) (hp : ∃ o, H p = some o ∧ (∀ d f g, o ≠ .ins C d [("number", f), ("under", g)]) ∧ (∀ d f g, o ≠ .ins CP d [("x", f), ("y", g)])) (h : PtQ C CP H z X Y) : PtQ C CP H' z X Y := by
  obtain ⟨b, d, v, w, e, h, h2, h3⟩ := h
  obtain ⟨o, h4, h5, h6⟩ := hp
  refine ⟨b, d, v, w, e, k b _ (fun z => ?_) h, h2.off k ⟨o, h4, h5⟩, h3.off k ⟨o, h4, h5⟩⟩
  rw [z, h4] at h
  exact h6 _ _ _ (Option.some.inj h)
/-- what Point(v, w) asks -/
theorem mk_pt {C CP x dx : Addr} {H : Hp} {v w : V} {X Y : Rat} {P : VK} {E : XK} (hv : NumQ C H v X) (hw : NumQ C H w Y) (hx : H x = none) (hdx : H dx = none) (ne : dx ≠ x) (q : ∀ H', Same H H' → PtQ C CP H' (.ref x) X Y → P .non H') :
    spPInit C CP [.ref x, v, w] (upd (upd H dx (.own x)) x (.ins CP dx [])) P E := by
  have S : Same H (upd (upd H dx (.own x)) x (.ins CP dx [])) := fun b o e => by
    rw [upd_ne (ne_of_none e hx), upd_ne (ne_of_none e hdx)]
    exact e
  exact ⟨x, dx, v, w, X, Y, rfl, upd_same, hv.same S, hw.same S, fun H' k pt => q H' (fun b o e => k b o (ne_of_none e hx) (S b o e)) pt⟩
theorem ptTy {K : PySem.W.Frag} {mg : Str → Option Value} {a : Ad} (T : Txt K mg a) {H : Hp} {v : V} {X Y : Rat} (h : PtQ a.Ratio a.Point H v X Y) : TyX K H v (.ref a.Point) := by
  obtain ⟨x, dx, _, _, rfl, e, _⟩ := h
  exact .base (.ins e T.clP T.riP.ca T.riP.cn T.riP.ct T.riP.cm)
/-- the same fraction, the same two ints -/
theorem q_same (X Y : Rat) : (X.num = Y.num ∧ (X.den : Int) = (Y.den : Int)) ↔ X = Y := by
  constructor
  · rintro ⟨e1, e2⟩
    exact Rat.ext e1 (by omega)
  · rintro rfl
    exact ⟨rfl, rfl⟩
section
variable {P : Program} {w : World} {K : PySem.W.Frag} {mg : Str → Option Value} {base : Heap} {a : Ad}
theorem ok_check_point {fd : FuncData} (F : Fun K "check_point" "check_point" s_check_point a.check_point fd) (T : Txt K mg a) :
    FnOk P w K mg base CX0 1 a.check_point fd ["value"] (spChk K a.Point) := by
  refine F.ok sc_check_point (fun vs H Q E h => ?len) (fun cdv A outer s H vs Q E hr h => ⟨_,
      (pss_one (ps_if (pt_not (pt_val (pe_callB call_isi (by rfl) T.n_isinstance (by decide +kernel) (pa_cons (pv 0) (pa_cons (pe_glob (v := .ref a.Point) (by rfl) T.g_Point rfl) pa_nil))))) (pss_one ps_never) pss_nil)), ?body⟩)
  case len => obtain ⟨v, t, rfl, _⟩ := h; rfl
  case body =>
    obtain ⟨v, t, rfl, ty, k, q⟩ := h
    exact ⟨_, rfl, _, _, _, _, true, rfl, .own _, ty, k, true, rfl, iteF q⟩
theorem ok_Point___init__ {fd : FuncData} (F : Fun K "__init__" "Point.__init__" s_Point___init__ a.Point___init__ fd) (T : Txt K mg a)
    {fd_as_ratio : FuncData} (G_as_ratio : FnOk P w K mg base CX0 4 a.as_ratio fd_as_ratio ["number"] (spAs K a.Ratio)) (b_as_ratio : Binds K fd_as_ratio ["number"] [])
    {fd_is_number : FuncData} (G_is_number : FnOk P w K mg base CX0 2 a.is_number fd_is_number ["value"] (spIsNum K a.Ratio)) (b_is_number : Binds K fd_is_number ["value"] []) :
    FnOk P w K mg base CX0 6 a.Point___init__ fd ["self", "x", "y"] (spPInit a.Ratio a.Point) := by
  refine F.ok sc_Point___init__ (fun vs H Q E h => ?len) (fun cdv A outer s H vs Q E hr h => ⟨_,
      (pss_cons (ps_if (PW.pt (pw_or (pt_not (pt_val (pe_call G_is_number (hr.mono (by omega)) (by rfl) T.g_is_number T.k_is_number b_is_number .nil pass0 (pa_cons (pv 1) pa_nil)))) (pw_or1 (pt_not (pt_val (pe_call G_is_number (hr.mono (by omega)) (by rfl) T.g_is_number T.k_is_number b_is_number .nil pass0 (pa_cons (pv 2) pa_nil))))))) (pss_one ps_never) pss_nil)
      (pss_cons (ps_fld (pv 0) (pe_call G_as_ratio (hr.mono (by omega)) (by rfl) T.g_as_ratio T.k_as_ratio b_as_ratio .nil pass0 (pa_cons (pv 1) pa_nil)) rfl)
      (pss_one (ps_fld (pv 0) (pe_call G_as_ratio (hr.mono (by omega)) (by rfl) T.g_as_ratio T.k_as_ratio b_as_ratio .nil pass0 (pa_cons (pv 2) pa_nil)) rfl)))), ?body⟩)
  case len => obtain ⟨p, dx, v, w, X, Y, rfl, _⟩ := h; rfl
  case body =>
    obtain ⟨p, dx, v, w, X, Y, rfl, hp, hv, hw, q⟩ := h
    obtain ⟨ty, b1, b2, b3, t1, k1, k2, k3, e1⟩ := numTy T hv
    obtain ⟨ty', c1, c2, c3, t1', k1', k2', k3', e2⟩ := numTy T hw
    refine ⟨_, rfl, v, ty, b1, b2, b3, rfl, t1, k1, k2, k3, _, rfl, ?_⟩
    rw [e1]
    refine iteF ?_
    refine ⟨_, rfl, w, ty', c1, c2, c3, rfl, t1', k1', k2', k3', _, rfl, ?_⟩
    rw [e2]
    refine iteF ?_
    refine ⟨_, rfl, v, _, _, rfl, hv, fun v1 H1 S1 hv1 => ?_⟩
    refine ⟨_, rfl, _, _, _, _, rfl, S1 _ _ hp, T.clP, T.nX, by decide, ?_⟩
    have k1 : ∀ b o, b ≠ p → H b = some o → (upd H1 p (.ins a.Point dx [("x", v1)])) b = some o := fun b o n e => by
      rw [upd_ne n]
      exact S1 _ _ e
    have hw1 := NumAt.off k1 ⟨_, hp, no_ins0⟩ hw
    refine ⟨_, rfl, w, _, _, rfl, hw1, fun w1 H2 S2 hw2 => ?_⟩
    refine ⟨_, rfl, _, _, _, _, rfl, S2 _ _ upd_same, T.clP, T.nY, (by show 1 < 1000; decide), ?_⟩
    refine q _ (fun b o n e => ?_) ⟨p, dx, v1, w1, rfl, upd_same, ?_, ?_⟩
    · rw [upd_ne n]
      exact S2 _ _ (k1 b o n e)
    · have h1 : RatAt a.Ratio (upd H1 p (.ins a.Point dx [("x", v1)])) v1 _ _ := RatAt.off (fun b o n e => by rw [upd_ne n]; exact e) ⟨_, S1 _ _ hp, no_ins0⟩ hv1
      exact RatAt.off (p := p) (fun b o n e => by rw [upd_ne n]; exact e) ⟨_, S2 _ _ upd_same, no_ins1⟩ (h1.same S2)
    · exact RatAt.off (p := p) (fun b o n e => by rw [upd_ne n]; exact e) ⟨_, S2 _ _ upd_same, no_ins1⟩ hw2
theorem ok_Point___eq__ {fd : FuncData} (F : Fun K "__eq__" "Point.__eq__" s_Point___eq__ a.Point___eq__ fd) (T : Txt K mg a)
    {fd_Ratio___eq__ : FuncData} (G_Ratio___eq__ : FnOk P w K mg base CX0 1 a.Ratio___eq__ fd_Ratio___eq__ ["self", "other"] (spEqq K a.Ratio)) (b_Ratio___eq__ : Binds K fd_Ratio___eq__ ["self", "other"] []) :
    FnOk P w K mg base CX0 4 a.Point___eq__ fd ["self", "other"] (spPEq K a.Ratio a.Point) := by
  refine F.ok sc_Point___eq__ (fun vs H Q E h => ?len) (fun cdv A outer s H vs Q E hr h => ⟨_,
      (pss_one (ps_ret (pe_and (pe_callB call_isi (by rfl) T.n_isinstance (by decide +kernel) (pa_cons (pv 1) (pa_cons (pe_glob (v := .ref a.Point) (by rfl) T.g_Point rfl) pa_nil))) (pe_and (pe_cmpR (op_eqK T.eqc (fnR G_Ratio___eq__ b_Ratio___eq__) (hr.mono (by omega)) pass0) (pe_fld (pv 0) rfl) (pe_fld (pv 1) rfl) (nomark _)) (pe_one (pe_cmpR (op_eqK T.eqc (fnR G_Ratio___eq__ b_Ratio___eq__) (hr.mono (by omega)) pass0) (pe_fld (pv 0) rfl) (pe_fld (pv 1) rfl) (nomark _))))))), ?body⟩)
  case len => obtain ⟨v, w, X, Y, X', Y', rfl, _⟩ := h; rfl
  case body =>
    obtain ⟨v, w, X, Y, X', Y', rfl, hv, hw, q⟩ := h
    refine ⟨_, rfl, w, _, _, _, true, rfl, .own _, ptTy T hw, T.riP.ks, true, rfl, iteT ?_⟩
    obtain ⟨p1, e1, x1, y1, rfl, h1, ⟨a1, d1, rfl, hx1⟩, ⟨b1, f1, rfl, hy1⟩⟩ := hv
    obtain ⟨p2, e2, x2, y2, rfl, h2, ⟨a2, d2, rfl, hx2⟩, ⟨b2, f2, rfl, hy2⟩⟩ := hw
    have nfC : PySem.W.notFirst K a.Ratio (.ref a.Ratio) = true := by simp [PySem.W.notFirst]
    refine ⟨_, rfl, _, _, _, _, _, rfl, h1, T.clP, T.nX, rfl, _, rfl, _, _, _, _, _, rfl, h2, T.clP, T.nX, rfl, ?_⟩
    refine ⟨a1, d1, _, _, rfl, hx1, .ins hx2, nfC, _, _, _, _, rfl, ⟨a1, d1, rfl, hx1⟩, .inl ⟨_, _, ⟨a2, d2, rfl, hx2⟩, _, rfl, ite2 (fun c => ?_) (fun c => ?_)⟩⟩
    · have g1 := (q_same _ _).mp (of_decide_eq_true c)
      refine ⟨_, rfl, _, _, _, _, _, rfl, h1, T.clP, T.nY, rfl, _, rfl, _, _, _, _, _, rfl, h2, T.clP, T.nY, rfl, ?_⟩
      refine ⟨b1, f1, _, _, rfl, hy1, .ins hy2, nfC, _, _, _, _, rfl, ⟨b1, f1, rfl, hy1⟩, .inl ⟨_, _, ⟨b2, f2, rfl, hy2⟩, ?_⟩⟩
      have e : decide (Y.num = Y'.num ∧ (Y.den : Int) = (Y'.den : Int)) = decide (X = X' ∧ Y = Y') := by
        by_cases k : Y = Y'
        · rw [decide_eq_true ((q_same _ _).mpr k), decide_eq_true ⟨g1, k⟩]
        · rw [decide_eq_false fun z => k ((q_same _ _).mp z), decide_eq_false fun z => k z.2]
      rw [e]
      exact q _ (Same.refl _)
    · have e : decide (X = X' ∧ Y = Y') = false := decide_eq_false fun z => c (decide_eq_true ((q_same _ _).mpr z.1))
      have q := q _ (Same.refl _)
      rw [e] at q
      exact q
end
end My

namespace My
open PySem PySem.Spec PyProof.Rows L2 G
abbrev s_Line___init__ : Stmt := inClass (topS 25) 0
theorem sc_Line___init__ : FnScope ["self", "one", "other"] ["self", "one", "other"] (defScope s_Line___init__) := ⟨rfl, rfl, rfl, by decide +kernel, rfl, by decide +kernel, by decide +kernel⟩

abbrev s_Line___eq__ : Stmt := inClass (topS 25) 4
theorem sc_Line___eq__ : FnScope ["self", "other"] ["self", "other"] (defScope s_Line___eq__) := ⟨rfl, rfl, rfl, by decide +kernel, rfl, by decide +kernel, by decide +kernel⟩

abbrev lnFs (v w : V) : List (Str × V) := [("one", v), ("other", w)]
def LnQ (C CP CL : Addr) (H : Hp) (z : V) (X1 Y1 X2 Y2 : Rat) : Prop := ∃ b dx v w, z = .ref b ∧ H b = some (.ins CL dx (lnFs v w)) ∧ PtQ C CP H v X1 Y1 ∧ PtQ C CP H w X2 Y2
theorem LnQ.same {C CP CL : Addr} {H H' : Hp} {z : V} {X1 Y1 X2 Y2 : Rat} (S : Same H H') (h : LnQ C CP CL H z X1 Y1 X2 Y2) : LnQ C CP CL H' z X1 Y1 X2 Y2 := let ⟨b, dx, v, w, e, h1, h2, h3⟩ := h; ⟨b, dx, v, w, e, S _ _ h1, h2.same S, h3.same S⟩
def spLInit (K : PySem.W.Frag) (C CP CL : Addr) : Sp := fun vs H Q _ => ∃ p dx v w X1 Y1 X2 Y2, vs = [.ref p, v, w] ∧ H p = some (.ins CL dx []) ∧ PtQ C CP H v X1 Y1 ∧ PtQ C CP H w X2 Y2 ∧ ¬ (X1 = X2 ∧ Y1 = Y2) ∧
  ∀ H', (∀ b o, b ≠ p → H b = some o → H' b = some o) → LnQ C CP CL H' (.ref p) X1 Y1 X2 Y2 → Q .non H'
def spLEq (K : PySem.W.Frag) (C CP CL : Addr) : Sp := fun vs H Q _ => ∃ v w X1 Y1 X2 Y2, vs = [v, w] ∧ LnQ C CP CL H v X1 Y1 X2 Y2 ∧
  ((∃ X3 Y3 X4 Y4, LnQ C CP CL H w X3 Y3 X4 Y4 ∧ ∀ H', Same H H' → Q (.bl (decide ((X1 = X3 ∧ Y1 = Y3) ∧ (X2 = X4 ∧ Y2 = Y4)))) H') ∨ (NotR K CL H w ∧ Q (.bl false) H))
theorem lnTy {K : PySem.W.Frag} {mg : Str → Option Value} {a : Ad} (T : Txt K mg a) {H : Hp} {v : V} {X1 Y1 X2 Y2 : Rat} (h : LnQ a.Ratio a.Point a.Line H v X1 Y1 X2 Y2) : TyX K H v (.ref a.Line) := by
  obtain ⟨x, dx, _, _, rfl, e, _⟩ := h
  exact .base (.ins e T.clL T.riL.ca T.riL.cn T.riL.ct T.riL.cm)
theorem num_zero {q : Rat} : q.num = 0 ↔ q = 0 := Rat.num_eq_zero
/-- what Line(v, w) asks -/
theorem mk_ln {K : PySem.W.Frag} {C CP CL x dx : Addr} {H : Hp} {v w : V} {X1 Y1 X2 Y2 : Rat} {P : VK} {E : XK} (hv : PtQ C CP H v X1 Y1) (hw : PtQ C CP H w X2 Y2) (ne : ¬ (X1 = X2 ∧ Y1 = Y2)) (hx : H x = none) (hdx : H dx = none) (q : ∀ H', Same H H' → LnQ C CP CL H' (.ref x) X1 Y1 X2 Y2 → P .non H') :
    spLInit K C CP CL [.ref x, v, w] (upd (upd H dx (.own x)) x (.ins CL dx [])) P E := by
  have S : Same H (upd (upd H dx (.own x)) x (.ins CL dx [])) := fun b o e => by
    rw [upd_ne (ne_of_none e hx), upd_ne (ne_of_none e hdx)]
    exact e
  exact ⟨x, dx, v, w, X1, Y1, X2, Y2, rfl, upd_same, hv.same S, hw.same S, ne, fun H' k l => q H' (fun b o e => k b o (ne_of_none e hx) (S b o e)) l⟩
section
variable {P : Program} {w : World} {K : PySem.W.Frag} {mg : Str → Option Value} {base : Heap} {a : Ad}
theorem ok_Line___init__ {fd : FuncData} (F : Fun K "__init__" "Line.__init__" s_Line___init__ a.Line___init__ fd) (T : Txt K mg a)
    {fd_Point___eq__ : FuncData} (G_Point___eq__ : FnOk P w K mg base CX0 4 a.Point___eq__ fd_Point___eq__ ["self", "other"] (spPEq K a.Ratio a.Point)) (b_Point___eq__ : Binds K fd_Point___eq__ ["self", "other"] [])
    {fd_check_point : FuncData} (G_check_point : FnOk P w K mg base CX0 1 a.check_point fd_check_point ["value"] (spChk K a.Point)) (b_check_point : Binds K fd_check_point ["value"] []) :
    FnOk P w K mg base CX0 6 a.Line___init__ fd ["self", "one", "other"] (spLInit K a.Ratio a.Point a.Line) := by
  refine F.ok sc_Line___init__ (fun vs H Q E h => ?len) (fun cdv A outer s H vs Q E hr h => ⟨_,
      (pss_cons (ps_expr (pe_call G_check_point (hr.mono (by omega)) (by rfl) T.g_check_point T.k_check_point b_check_point .nil pass0 (pa_cons (pv 1) pa_nil)))
      (pss_cons (ps_expr (pe_call G_check_point (hr.mono (by omega)) (by rfl) T.g_check_point T.k_check_point b_check_point .nil pass0 (pa_cons (pv 2) pa_nil)))
      (pss_cons (ps_if (pt_cmpR (op_eqK T.eqP (fnR G_Point___eq__ b_Point___eq__) (hr.mono (by omega)) pass0) (pv 1) (pv 2) (nomark _)) (pss_one ps_never) pss_nil)
      (pss_cons (ps_fld (pv 0) (pv 1) rfl)
      (pss_one (ps_fld (pv 0) (pv 2) rfl)))))), ?body⟩)
  case len => obtain ⟨p, dx, v, w, X1, Y1, X2, Y2, rfl, _⟩ := h; rfl
  case body =>
    obtain ⟨p, dx, v, w, X1, Y1, X2, Y2, rfl, hp, hv, hw, ne, q⟩ := h
    have nfC : PySem.W.notFirst K a.Point (.ref a.Point) = true := by simp [PySem.W.notFirst]
    refine ⟨_, rfl, v, _, rfl, ptTy T hv, T.riP.ks, ?_⟩
    refine ⟨_, rfl, w, _, rfl, ptTy T hw, T.riP.ks, ?_⟩
    obtain ⟨b1, d1, x1, y1, rfl, h1, r1, s1⟩ := id hv
    obtain ⟨b2, d2, x2, y2, rfl, h2, r2, s2⟩ := id hw
    refine ⟨_, rfl, _, rfl, b1, d1, _, _, rfl, h1, .ins h2, nfC, _, _, X1, Y1, X2, Y2, rfl, hv, hw, fun H1 S1 => ?_⟩
    rw [decide_eq_false ne]
    refine ⟨_, rfl, iteF ?_⟩
    have n1 : ∀ (d : Addr) (f g : V), HO.ins a.Line dx [] ≠ .ins a.Point d [("x", f), ("y", g)] := fun d f g z => nomatch (HO.ins.inj z).2.2
    have n2 : ∀ (d : Addr) (f g : V), HO.ins a.Line dx [("one", V.ref b1)] ≠ .ins a.Point d [("x", f), ("y", g)] := fun d f g z => by
      have := congrArg List.length (HO.ins.inj z).2.2
      simp at this
    have e1 := S1 _ _ hp
    refine ⟨_, rfl, _, rfl, _, _, _, _, rfl, e1, T.clL, T.nA, by decide, ?_⟩
    refine ⟨_, rfl, _, rfl, _, _, _, _, rfl, upd_same, T.clL, T.nB, (by show 1 < 1000; decide), ?_⟩
    refine q _ (fun b o n e => ?_) ⟨p, dx, _, _, rfl, upd_same, ?_, ?_⟩
    · rw [upd_ne n, upd_ne n]
      exact S1 _ _ e
    · exact ((hv.same S1).off (fun b o n e => by rw [upd_ne n]; exact e) ⟨_, e1, no_ins0, n1⟩).off (fun b o n e => by rw [upd_ne n]; exact e) ⟨_, upd_same, no_ins1, n2⟩
    · exact ((hw.same S1).off (fun b o n e => by rw [upd_ne n]; exact e) ⟨_, e1, no_ins0, n1⟩).off (fun b o n e => by rw [upd_ne n]; exact e) ⟨_, upd_same, no_ins1, n2⟩
theorem ok_Line___eq__ {fd : FuncData} (F : Fun K "__eq__" "Line.__eq__" s_Line___eq__ a.Line___eq__ fd) (T : Txt K mg a)
    {fd_Point___eq__ : FuncData} (G_Point___eq__ : FnOk P w K mg base CX0 4 a.Point___eq__ fd_Point___eq__ ["self", "other"] (spPEq K a.Ratio a.Point)) (b_Point___eq__ : Binds K fd_Point___eq__ ["self", "other"] []) :
    FnOk P w K mg base CX0 5 a.Line___eq__ fd ["self", "other"] (spLEq K a.Ratio a.Point a.Line) := by
  refine F.ok sc_Line___eq__ (fun vs H Q E h => ?len) (fun cdv A outer s H vs Q E hr h => ⟨_,
      (pss_one (ps_ret (pe_and (pe_callB call_isi (by rfl) T.n_isinstance (by decide +kernel) (pa_cons (pv 1) (pa_cons (pe_glob (v := .ref a.Line) (by rfl) T.g_Line rfl) pa_nil))) (pe_and (pe_cmpR (op_eqK T.eqP (fnR G_Point___eq__ b_Point___eq__) (hr.mono (by omega)) pass0) (pe_fld (pv 0) rfl) (pe_fld (pv 1) rfl) (nomark _)) (pe_one (pe_cmpR (op_eqK T.eqP (fnR G_Point___eq__ b_Point___eq__) (hr.mono (by omega)) pass0) (pe_fld (pv 0) rfl) (pe_fld (pv 1) rfl) (nomark _))))))), ?body⟩)
  case len => obtain ⟨v, w, X1, Y1, X2, Y2, rfl, _⟩ := h; rfl
  case body =>
    obtain ⟨v, w, X1, Y1, X2, Y2, rfl, hL, h⟩ := h
    rcases h with ⟨X3, Y3, X4, Y4, hM, q⟩ | ⟨⟨ty, t1, k1⟩, q⟩
    · refine ⟨_, rfl, w, _, _, _, true, rfl, .own _, lnTy T hM, T.riL.ks, true, rfl, iteT ?_⟩
      have nfC : PySem.W.notFirst K a.Point (.ref a.Point) = true := by simp [PySem.W.notFirst]
      obtain ⟨b, dx, v1, w1, rfl, hb, p1, p2⟩ := hL
      obtain ⟨c, dy, v3, v4, rfl, hc, p3, p4⟩ := hM
      obtain ⟨c1, d1, x1, y1, rfl, hc1, r1, s1⟩ := id p1
      obtain ⟨c2, d2, x2, y2, rfl, hc2, r2, s2⟩ := id p2
      obtain ⟨c3, d3, x3, y3, rfl, hc3, r3, s3⟩ := id p3
      obtain ⟨c4, d4, x4, y4, rfl, hc4, r4, s4⟩ := id p4
      refine ⟨_, rfl, _, _, _, _, _, rfl, hb, T.clL, T.nA, rfl, _, rfl, _, _, _, _, _, rfl, hc, T.clL, T.nA, rfl, ?_⟩
      refine ⟨c1, d1, _, _, rfl, hc1, .ins hc3, nfC, _, _, _, _, _, _, rfl, p1, p3, fun H1 S1 => ⟨_, rfl, ite2 (fun c => ?_) (fun c => ?_)⟩⟩
      · have g1 := of_decide_eq_true c
        refine ⟨_, rfl, _, _, _, _, _, rfl, S1 _ _ hb, T.clL, T.nB, rfl, _, rfl, _, _, _, _, _, rfl, S1 _ _ hc, T.clL, T.nB, rfl, ?_⟩
        refine ⟨c2, d2, _, _, rfl, S1 _ _ hc2, .ins (S1 _ _ hc4), nfC, _, _, _, _, _, _, rfl, p2.same S1, p4.same S1, fun H2 S2 => ?_⟩
        have e : decide (X2 = X4 ∧ Y2 = Y4) = decide ((X1 = X3 ∧ Y1 = Y3) ∧ (X2 = X4 ∧ Y2 = Y4)) := by
          by_cases k : X2 = X4 ∧ Y2 = Y4
          · rw [decide_eq_true k, decide_eq_true ⟨g1, k⟩]
          · rw [decide_eq_false k, decide_eq_false fun z => k z.2]
        rw [e]
        exact q _ (S1.trans S2)
      · have e : decide ((X1 = X3 ∧ Y1 = Y3) ∧ (X2 = X4 ∧ Y2 = Y4)) = false := decide_eq_false fun z => c (decide_eq_true z.1)
        have q := q _ S1
        rw [e] at q
        exact q
    · exact ⟨_, rfl, w, _, _, _, false, rfl, .own _, t1, k1, false, rfl, iteF q⟩
end
end My

namespace G
open PySem PySem.Spec PyProof.Rows L2
def rLenQ (K : PySem.W.Frag) : List V → Hp → VK → Prop := fun xs H Q => ∃ p ys, xs = [V.ref p] ∧ (SqL K H p ys ∨ SqT K H p ys) ∧ Q (.int (ys.length : Nat)) H
theorem room1 {k : Nat} {A : Around} (r : Room k A) : A.units + 65 < cLine := by have := r.un; omega
theorem yesI {te : TE} {σ : L2.St} {H : Hp} {Q : VK} {N : Hp → Prop} (h : te σ H Q) : tYes σ H fun b H3 => if b = true then te σ H3 Q else N H3 := by
  unfold tYes
  exact iteT h
/-- a list comprehension without tests over any walk, for any target, whose element makes new things at most -/
theorem lc_relW {J : It} {n : Nat} {GG : Hp → Prop} {Y : Nat → Hp → V → Hp → Prop} (w : Walk J n GG Y) {g : TG} {te : TE} {vs : List Nat} {σ : L2.St} {H1 : Hp} {D : Addr} {Qd : Hp → Prop} (R : Nat → V → Hp → Prop) (hR : ∀ i y H H', NoL H H' → R i y H → R i y H')
    (hD : H1 D = none) (hG : ∀ H', Same H1 H' → GG H') (hz : n < sizeLine)
    (he : ∀ i x H' H'' (Q : VK) (N : Hp → Prop), i < n → Same H1 H' → Y i H' x H'' → (∀ y H3, Same H' H3 → R i y H3 → Q y H3) → g x (wipe σ vs) H'' fun σ2 H2 => wipe σ2 vs = wipe σ vs ∧ tYes σ2 H2 fun b H3 => if b = true then te σ2 H3 Q else N H3)
    (hd : ∀ ys H', Same H1 H' → H' D = some (.lst ys) → ys.length = n → (∀ i y, ys[i]? = some y → R i y H') → Qd H') :
    ∃ W : Nat → Nat → Hp → Prop, (∃ m, W 0 m (upd H1 D (.lst []))) ∧ ∀ i m H, W i m H →
      (J.stop i H ∧ Qd H) ∨ (J.go i H ∧ ∃ Nx : Hp → Prop, (∀ H', Nx H' → ∃ m', m' < m ∧ W (i + 1) m' H') ∧ ∀ x H', J.yld i H x H' → g x (wipe σ vs) H' fun σ2 H2 => wipe σ2 vs = wipe σ vs ∧ tYes σ2 H2 fun b H3 =>
        if b = true then te σ2 H3 fun y H4 => ∃ acc, H4 D = some (.lst acc) ∧ acc.length < sizeLine ∧ Nx (upd H4 D (.lst (acc ++ [y]))) else Nx H3) := by
  refine lc_it w (fun i H' => Same H1 H' ∧ ∃ ys, H' D = some (.lst ys) ∧ ys.length = i ∧ ∀ j y, ys[j]? = some y → R j y H') ⟨same_new hD, [], upd_same, rfl, fun j y h => by simp at h⟩ ?_ ?_ ?_
  · rintro i H' hi ⟨S, _⟩
    exact hG _ S
  · rintro i x H' H'' hi ⟨S, ys, dy, len, p⟩ y1
    refine he i x H' H'' _ _ hi S y1 fun y H3 S2 r => ?_
    have d2 := S2 _ _ dy
    refine ⟨ys, d2, by omega, fun b o e => ?_, ys ++ [y], upd_same, by rw [List.length_append, len]; rfl, fun j z hz => ?_⟩
    · rw [upd_ne (ne_of_none e hD)]
      exact S2 _ _ (S _ _ e)
    · have nl := noL_upd (ys := ys ++ [y]) d2
      rcases Nat.lt_or_ge j ys.length with h | h
      · rw [List.getElem?_append_left h] at hz
        exact hR _ _ _ _ nl (hR _ _ _ _ (NoL.same S2) (p j z hz))
      · rw [List.getElem?_append_right h] at hz
        have : j = i := by
          have := (List.getElem?_eq_some_iff.mp hz).1
          simp at this
          omega
        subst this
        rw [len, Nat.sub_self] at hz
        cases hz
        exact hR _ _ _ _ nl r
  · rintro H' ⟨S, ys, dy, len, p⟩
    exact hd ys H' S dy len p
/-- the same where each element is known: f i at turn i -/
theorem lc_valW {J : It} {n : Nat} {GG : Hp → Prop} {Y : Nat → Hp → V → Hp → Prop} (w : Walk J n GG Y) {g : TG} {te : TE} {vs : List Nat} {σ : L2.St} {H1 : Hp} {D : Addr} {Qd : Hp → Prop} (f : Nat → V)
    (hD : H1 D = none) (hG : ∀ H', Same H1 H' → GG H') (hz : n < sizeLine)
    (he : ∀ i x H' H'' (Q : VK) (N : Hp → Prop), i < n → Same H1 H' → Y i H' x H'' → (∀ H3, Same H' H3 → Q (f i) H3) → g x (wipe σ vs) H'' fun σ2 H2 => wipe σ2 vs = wipe σ vs ∧ tYes σ2 H2 fun b H3 => if b = true then te σ2 H3 Q else N H3)
    (hd : ∀ H', Same H1 H' → H' D = some (.lst ((List.range n).map f)) → Qd H') :
    ∃ W : Nat → Nat → Hp → Prop, (∃ m, W 0 m (upd H1 D (.lst []))) ∧ ∀ i m H, W i m H →
      (J.stop i H ∧ Qd H) ∨ (J.go i H ∧ ∃ Nx : Hp → Prop, (∀ H', Nx H' → ∃ m', m' < m ∧ W (i + 1) m' H') ∧ ∀ x H', J.yld i H x H' → g x (wipe σ vs) H' fun σ2 H2 => wipe σ2 vs = wipe σ vs ∧ tYes σ2 H2 fun b H3 =>
        if b = true then te σ2 H3 fun y H4 => ∃ acc, H4 D = some (.lst acc) ∧ acc.length < sizeLine ∧ Nx (upd H4 D (.lst (acc ++ [y]))) else Nx H3) :=
  lc_relW w (fun i y _ => y = f i) (fun _ _ _ _ _ h => h) hD hG hz (fun i x H' H'' Q N hi S y q => he i x H' H'' Q N hi S y fun H3 S3 => q _ H3 S3 rfl) fun ys H' S e len p => by
    have : ys = (List.range n).map f := List.ext_getElem? fun i => by
      rcases Nat.lt_or_ge i n with h | h
      · rw [List.getElem?_eq_getElem (show i < ys.length by omega), p i _ (List.getElem?_eq_getElem (show i < ys.length by omega)), List.getElem?_map, List.getElem?_range h]
        rfl
      · rw [List.getElem?_eq_none (by omega), List.getElem?_eq_none (by simpa using h)]
    exact hd H' S (this ▸ e)
/-- a comprehension with a test: which turns it keeps (b) and what each gives (f) is known -/
theorem lc_testW {J : It} {n : Nat} {GG : Hp → Prop} {Y : Nat → Hp → V → Hp → Prop} (w : Walk J n GG Y) {g : TG} {tt : TT} {te : TE} {vs : List Nat} {σ : L2.St} {H1 : Hp} {D : Addr} {Qd : Hp → Prop} (b : Nat → Bool) (f : Nat → V)
    (hD : H1 D = none) (hG : ∀ H', Same H1 H' → GG H') (hz : n < sizeLine)
    (he : ∀ i x H' H'' (Q : VK) (N : Hp → Prop), i < n → Same H1 H' → Y i H' x H'' → (b i = true → ∀ H3, Same H' H3 → Q (f i) H3) → (b i = false → ∀ H3, Same H' H3 → N H3) → g x (wipe σ vs) H'' fun σ2 H2 => wipe σ2 vs = wipe σ vs ∧ tt σ2 H2 fun b H3 => if b = true then te σ2 H3 Q else N H3)
    (hd : ∀ H', Same H1 H' → H' D = some (.lst (((List.range n).filter b).map f)) → Qd H') :
    ∃ W : Nat → Nat → Hp → Prop, (∃ m, W 0 m (upd H1 D (.lst []))) ∧ ∀ i m H, W i m H →
      (J.stop i H ∧ Qd H) ∨ (J.go i H ∧ ∃ Nx : Hp → Prop, (∀ H', Nx H' → ∃ m', m' < m ∧ W (i + 1) m' H') ∧ ∀ x H', J.yld i H x H' → g x (wipe σ vs) H' fun σ2 H2 => wipe σ2 vs = wipe σ vs ∧ tt σ2 H2 fun b H3 =>
        if b = true then te σ2 H3 fun y H4 => ∃ acc, H4 D = some (.lst acc) ∧ acc.length < sizeLine ∧ Nx (upd H4 D (.lst (acc ++ [y]))) else Nx H3) := by
  refine lc_it w (fun i H' => Same H1 H' ∧ H' D = some (.lst (((List.range i).filter b).map f))) ⟨same_new hD, upd_same⟩ ?_ ?_ ?_
  · rintro i H' hi ⟨S, _⟩
    exact hG _ S
  · rintro i x H' H'' hi ⟨S, dy⟩ y1
    refine he i x H' H'' _ _ hi S y1 (fun hb H3 S2 => ?_) fun hb H3 S2 => ?_
    · have d2 := S2 _ _ dy
      refine ⟨_, d2, ?_, fun c o e => ?_, ?_⟩
      · rw [List.length_map]
        have := List.length_filter_le b (List.range i)
        rw [List.length_range] at this
        omega
      · rw [upd_ne (ne_of_none e hD)]
        exact S2 _ _ (S _ _ e)
      · rw [upd_same, List.range_succ, List.filter_append, List.map_append, List.filter_cons_of_pos hb]
        rfl
    · refine ⟨S.trans S2, ?_⟩
      rw [S2 _ _ dy, List.range_succ, List.filter_append, List.map_append, List.filter_cons_of_neg (by rw [hb]; exact Bool.false_ne_true)]
      simp
  · rintro H' ⟨S, dy⟩
    exact hd H' S dy
end G

namespace G
open PySem PySem.Spec PyProof.Rows L2
theorem map_erase {α β : Type} (f : α → β) : ∀ (l : List α) (k : Nat), (l.map f).eraseIdx k = (l.eraseIdx k).map f
  | [], _ => rfl
  | _ :: _, 0 => rfl
  | a :: l, k + 1 => by
    show f a :: (l.map f).eraseIdx k = f a :: (l.eraseIdx k).map f
    rw [map_erase f l k]
end G
namespace My
open PySem PySem.Spec PyProof.Rows L2 G
abbrev s__law_some : Stmt := topS 41
theorem sc__law_some : FnScope ["_law_pot_here", "_law_pool", "_law_many", "_law_left", "_law_found", "_law_turn"] ["_law_pot_here", "_law_pool", "_law_many"] (defScope s__law_some) := ⟨rfl, rfl, rfl, by decide +kernel, rfl, by decide +kernel, by decide +kernel⟩

abbrev s__law_common : Stmt := topS 47
theorem sc__law_common : FnScope ["_law_one", "_law_other", "_law_left", "_law_right_here"] ["_law_one", "_law_other"] (defScope s__law_common) := ⟨rfl, rfl, rfl, by decide +kernel, rfl, by decide +kernel, by decide +kernel⟩

abbrev s__law_height : Stmt := topS 48
theorem sc__law_height : FnScope ["_law_one", "_law_other", "_law_dot", "_law_x", "_law_y", "_law_d", "_law_rise"] ["_law_one", "_law_other", "_law_dot"] (defScope s__law_height) := ⟨rfl, rfl, rfl, by decide +kernel, rfl, by decide +kernel, by decide +kernel⟩

abbrev s__law_spot : Stmt := topS 53
theorem sc__law_spot : FnScope ["_law_x", "_law_y", "_law_d", "_law_by"] ["_law_x", "_law_y", "_law_d"] (defScope s__law_spot) := ⟨rfl, rfl, rfl, by decide +kernel, rfl, by decide +kernel, by decide +kernel⟩

abbrev s__law_cross : Stmt := topS 52
theorem sc__law_cross : FnScope ["_law_one", "_law_other", "_law_a", "_law_b", "_law_c", "_law_d", "_law_e", "_law_f", "_law_g", "_law_h", "_law_by", "_law_share"] ["_law_one", "_law_other"] (defScope s__law_cross) := ⟨rfl, rfl, rfl, by decide +kernel, rfl, by decide +kernel, by decide +kernel⟩

abbrev s__law_made_point : Stmt := topS 55
theorem sc__law_made_point : FnScope ["_law_dot"] ["_law_dot"] (defScope s__law_made_point) := ⟨rfl, rfl, rfl, by decide +kernel, rfl, by decide +kernel, by decide +kernel⟩

theorem PotAt.over {p D : Addr} {k : Nat} {H : Hp} {o : HO} (h : PotAt H p k) (n : D ≠ p) : PotAt (upd H D o) p k := by
  obtain ⟨x, y, z, e, r⟩ := h
  exact ⟨x, y, z, by rw [upd_ne n.symm]; exact e, r⟩
theorem Go.over {p D : Addr} {n : Nat} {H H' : Hp} {o : HO} (g : Go p n H H') (h : H D = none) (nD : D ≠ p) : Go p n H (upd H' D o) := ⟨fun b u e => by
  have hb : b ≠ p := fun z => by rw [z, wo_same] at e; cases e
  have e' := e
  rw [wo_ne hb] at e' ⊢
  rw [upd_ne (ne_of_none e' h)]
  have := g.keep b u e
  rwa [wo_ne hb] at this, g.pot.over nD⟩
theorem Go.fwd {p : Addr} {n : Nat} {H H1 H2 : Hp} (g : Go p n H H1) (S : Same H1 H2) : Go p n H H2 := ⟨g.keep.trans (mask_mono S), g.pot.same S⟩
theorem Go.here {p : Addr} {n : Nat} {H : Hp} (h : PotAt H p n) : Go p n H H := ⟨Same.refl _, h⟩
theorem PotAt.new {p b : Addr} {n : Nat} {H : Hp} (h : PotAt H p n) (e : H b = none) : b ≠ p := fun z => h.has (by rw [← z]; exact e)
theorem PotAt.tup {p b : Addr} {n : Nat} {H : Hp} {xs : List V} (h : PotAt H p n) (e : H b = some (.tup xs)) : b ≠ p := fun z => by
  obtain ⟨_, _, _, f, _⟩ := h
  rw [z, f] at e
  cases e
/-- an int of so many bits at most -/
def Ib (n : Nat) (i : Int) : Prop := i.natAbs < 2 ^ n
theorem Ib.mono {m n : Nat} {i : Int} (h : Ib m i) (hn : m ≤ n) : Ib n i := Nat.lt_of_lt_of_le h (Nat.pow_le_pow_right (by decide) hn)
theorem Ib.sub {n : Nat} {i j : Int} (h : Ib n i) (h' : Ib n j) : Ib (n + 1) (i - j) := by
  unfold Ib at *
  rw [Nat.pow_succ]
  omega
theorem Ib.add {n : Nat} {i j : Int} (h : Ib n i) (h' : Ib n j) : Ib (n + 1) (i + j) := by
  unfold Ib at *
  rw [Nat.pow_succ]
  omega
theorem Ib.neg {n : Nat} {i : Int} (h : Ib n i) : Ib n (-i) := by
  unfold Ib at *
  omega
theorem Ib.mul {m n : Nat} {i j : Int} (h : Ib m i) (h' : Ib n j) : Ib (m + n) (i * j) := by
  unfold Ib at *
  rw [Int.natAbs_mul, Nat.pow_add]
  exact Nat.mul_lt_mul'' h h'
theorem Ib.cw {m n : Nat} {i j : Int} (h : Ib m i) (h' : Ib n j) (hm : m ≤ 8000) (hn : n ≤ 8000) : CMulW i j := My.cw (h.mono hm) (h'.mono hn)
/-- a tuple of ints -/
def Pt (H : Hp) (v : V) (ns : List Int) : Prop := ∃ t, v = .ref t ∧ H t = some (.tup (ns.map V.int))
theorem Pt.same {H H' : Hp} {v : V} {ns : List Int} (S : Same H H') (h : Pt H v ns) : Pt H' v ns := let ⟨t, e, x⟩ := h; ⟨t, e, S _ _ x⟩
theorem Pt.wo {p : Addr} {n : Nat} {H : Hp} {v : V} {ns : List Int} (pot : PotAt H p n) (h : Pt H v ns) : Pt (wo p H) v ns := let ⟨t, e, x⟩ := h; ⟨t, e, (wo_ne (pot.tup x)).trans x⟩
/-- a dot: a fraction each, over a common number above 0 -/
def Dot (H : Hp) (v : V) (k : Nat) (x y d : Int) : Prop := Pt H v [x, y, d] ∧ 0 < d ∧ Ib k x ∧ Ib k y ∧ Ib k d
theorem Dot.same {H H' : Hp} {v : V} {k : Nat} {x y d : Int} (S : Same H H') (h : Dot H v k x y d) : Dot H' v k x y d := ⟨h.1.same S, h.2⟩
theorem Dot.mono {H : Hp} {v : V} {j k : Nat} {x y d : Int} (h : Dot H v j x y d) (hk : j ≤ k) : Dot H v k x y d := ⟨h.1, h.2.1, h.2.2.1.mono hk, h.2.2.2.1.mono hk, h.2.2.2.2.mono hk⟩
/-- two places -/
def LineAt (H : Hp) (v : V) (a b c d : Int) : Prop := ∃ t q r, v = .ref t ∧ H t = some (.tup [.ref q, .ref r]) ∧ H q = some (.tup [.int a, .int b]) ∧ H r = some (.tup [.int c, .int d])
theorem LineAt.same {H H' : Hp} {v : V} {a b c d : Int} (S : Same H H') (h : LineAt H v a b c d) : LineAt H' v a b c d := let ⟨t, q, r, e, x, y, z⟩ := h; ⟨t, q, r, e, S _ _ x, S _ _ y, S _ _ z⟩
/-- a mark: a name and a place -/
def MkAt (H : Hp) (v : V) (x y : Int) : Prop := ∃ t z q, v = .ref t ∧ H t = some (.tup [.str z, .ref q]) ∧ H q = some (.tup [.int x, .int y])
theorem MkAt.same {H H' : Hp} {v : V} {x y : Int} (S : Same H H') (h : MkAt H v x y) : MkAt H' v x y := let ⟨t, z, q, e, a, b⟩ := h; ⟨t, z, q, e, S _ _ a, S _ _ b⟩
/-- not too far -/
def Nr (x : Int × Int) : Prop := (-999 ≤ x.1 ∧ x.1 ≤ 999) ∧ (-999 ≤ x.2 ∧ x.2 ≤ 999)
theorem Nr.ib {x : Int × Int} (h : Nr x) : Ib 10 x.1 ∧ Ib 10 x.2 := by
  obtain ⟨h1, h2⟩ := h
  unfold Ib
  constructor <;> omega
/-- marks, one by one -/
def Mks (H : Hp) (vs : List V) (ms : List (Int × Int)) : Prop := Paired (fun v x => MkAt H v x.1 x.2 ∧ Nr x) vs ms
theorem Mks.same {H H' : Hp} {vs : List V} {ms : List (Int × Int)} (S : Same H H') (h : Mks H vs ms) : Mks H' vs ms := Paired.mapP h fun _ _ e => ⟨e.1.same S, e.2⟩
def hgt (a b c d x y e : Int) : Int := (c - a) * (y - b * e) - (d - b) * (x - a * e)
def spSome : Sp := fun vs H Q _ => ∃ (p s : Addr) (k n : Nat) (xs : List V), vs = [.ref p, .ref s, .int (k : Nat)] ∧ s ≠ p ∧ PotAt H p n ∧ n + k ≤ 100000 ∧ H s = some (.lst xs) ∧ k ≤ xs.length ∧ xs.length ≤ 100 ∧
  ∀ (l : Addr) (us : List V) (H' : Hp), us.length = k → (∀ u ∈ us, u ∈ xs) → H' l = some (.lst us) → l ≠ p → Go p (n + k) H H' → Q (.ref l) H'
def spCommon : Sp := fun vs H Q _ => ∃ a b : Int, vs = [.int a, .int b] ∧ Q (.int ((Nat.gcd a.natAbs b.natAbs : Nat) : Int)) H
def spHeight : Sp := fun vs H Q _ => ∃ v w z a b c d x y e k, vs = [v, w, z] ∧ Pt H v [a, b] ∧ Pt H w [c, d] ∧ Pt H z [x, y, e] ∧ Ib 10 a ∧ Ib 10 b ∧ Ib 10 c ∧ Ib 10 d ∧ Ib k x ∧ Ib k y ∧ Ib k e ∧ k ≤ 1000 ∧ Q (.int (hgt a b c d x y e)) H
def spSpot : Sp := fun vs H Q _ => ∃ x y d k, vs = [.int x, .int y, .int d] ∧ d ≠ 0 ∧ Ib k x ∧ Ib k y ∧ Ib k d ∧ k ≤ 2000 ∧ ∀ v H' x' y' d', Same H H' → Dot H' v k x' y' d' → x * d' = x' * d → y * d' = y' * d → Q v H'
def spCross : Sp := fun vs H Q _ => ∃ v w a b c d e f g h, vs = [v, w] ∧ LineAt H v a b c d ∧ LineAt H w e f g h ∧ (Ib 10 a ∧ Ib 10 b ∧ Ib 10 c ∧ Ib 10 d) ∧ (Ib 10 e ∧ Ib 10 f ∧ Ib 10 g ∧ Ib 10 h) ∧ (∀ H', Same H H' → Q .non H') ∧ ∀ v H' x' y' d', Same H H' → Dot H' v 60 x' y' d' → Q v H'
def spMp (C CP : Addr) : Sp := fun vs H Q _ => ∃ v k x y d, vs = [v] ∧ Dot H v k x y d ∧ k ≤ 2000 ∧ ∀ z H', Same H H' → PtQ C CP H' z (Rat.divInt x d) (Rat.divInt y d) → Q z H'
theorem mk_q2 {K : PySem.W.Frag} {C x dx : Addr} {H : Hp} {n u : Int} {P : VK} (h0 : u ≠ 0) (h1 : Ud u) (hx : H x = none) (hdx : H dx = none) (ne : dx ≠ x) (q : ∀ H', Same H H' → RatQ C H' (.ref x) (Rat.divInt n u) → P .non H') :
    spInit K C [.ref x, .int n, .int u] (upd (upd H dx (.own x)) x (.ins C dx [])) P E0 := by
  refine ⟨x, dx, n, u, rfl, h0, h1, upd_same, q _ (fun b o e => ?_) ⟨x, dx, rfl, ?_⟩⟩
  · rw [upd_ne (ne_of_none e hx), upd_ne (ne_of_none e hx), upd_ne (ne_of_none e hdx)]
    exact e
  · rw [upd_same, (rq h0).1, (rq h0).2]
section
variable {P : Program} {w : World} {K : PySem.W.Frag} {mg : Str → Option Value} {base : Heap} {a : Ad}
theorem ok__law_some {fd : FuncData} (F : Fun K "_law_some" "_law_some" s__law_some a._law_some fd) (T : Txt K mg a)
    {fd__law_take : FuncData} (G__law_take : Fn P w K mg base CX0 1 a._law_take fd__law_take ["_law_pot_here", "_law_upto"] spTake) (b__law_take : Binds K fd__law_take ["_law_pot_here", "_law_upto"] []) :
    Fn P w K mg base CX0 2 a._law_some fd ["_law_pot_here", "_law_pool", "_law_many"] spSome := by
  refine ok F sc__law_some (fun vs H Q E h => ?len) (fun cdv A outer s H vs Q E hq hr h => ⟨_,
      (pss_cons (ps_par (i := 3) (j := 4) (by rfl) sc__law_some.nd rfl rfl (by decide) rfl rfl (pa_cons (pe_callTy call_list_of (by rfl) T.n_list (by decide +kernel) (pa_cons (pv 1) pa_nil)) (pa_cons (pe_lstS pa_nil) pa_nil)) (by rfl))
      (pss_cons (ps_for PassesOwn.never rfl (pi_range1 (by rfl) T.n_range (pa_cons (pv 2) pa_nil)) (pg_name (i := 5) sc__law_some.nd rfl (Or.inl rfl)) (pss_one (ps_expr (pe_bm PySem.F.plainAttrs_list PySem.F.slot_list_append PySem.F.type_list_append mt_append (pv 4) (pa_cons (pe_bm PySem.F.plainAttrs_list PySem.F.slot_list_pop PySem.F.type_list_pop mt_popAt (pv 3) (pa_cons (pe_fn G__law_take hq (hr.mono (by omega)) (by rfl) T.g__law_take T.k__law_take b__law_take .nil pass0 (pa_cons (pv 0) (pa_cons (pe_callB call_len_seq (by rfl) T.n_len (by decide +kernel) (pa_cons (pv 3) pa_nil)) pa_nil))) pa_nil)) pa_nil)))))
      (pss_one (ps_ret (pv 4))))), ?body⟩)
  case len => obtain ⟨p, s, k, n, xs, rfl, _⟩ := h; rfl
  case body =>
    obtain ⟨p, s, k, n, xs, rfl, nsp, pot, hn, hs, hk, hw, q⟩ := h
    have hz := sizeLine_eq
    refine ⟨_, rfl, s, _, rfl, .inl (SqL.of hs), fun ll nll => ⟨(by show 0 ≤ sizeLine; decide), fun lf nlf slf => ⟨_, _, rfl, ?_⟩⟩⟩
    have Sl := same_new (o := .lst xs) nll
    have Sf := same_new (o := .lst []) nlf
    have nlp : ll ≠ p := pot.new nll
    have nfp : lf ≠ p := (pot.same Sl).new nlf
    have nlf' : ll ≠ lf := fun z => by rw [← z, upd_same] at nlf; cases nlf
    refine ⟨_, rfl, (k : Nat), rfl, by omega, by omega, for_it walk_range (fun i σ H' => ∃ (s5 : Option V) (left us : List V), σ = [some (.ref p), some (.ref s), some (.int (k : Nat)), some (.ref ll), some (.ref lf), s5] ∧ H' ll = some (.lst left) ∧ H' lf = some (.lst us) ∧
      us.length = i ∧ left.length + i = xs.length ∧ (∀ u ∈ us, u ∈ xs) ∧ (∀ u ∈ left, u ∈ xs) ∧ Go p (n + i) H H') ?start (fun _ _ _ _ _ => trivial) ?turn ?fin⟩
    case start =>
      exact ⟨none, xs, [], rfl, (Sf _ _ upd_same), upd_same, rfl, rfl, (fun u hu => nomatch hu), (fun u hu => hu), ⟨mask_mono (Sl.trans Sf), (pot.same Sl).same Sf⟩⟩
    case turn =>
      rintro i x σ H1 H2 hi ⟨s5, left, us, rfl, hl, hf, lu, ll1, sub, sub2, g⟩ ⟨rfl, rfl⟩
      have hi : i < k := by omega
      refine ⟨_, rfl, .inl ⟨rfl, _, SqL.of hf⟩, _, rfl, .inl ⟨rfl, _, SqL.of hl⟩, _, rfl, _, rfl, _, _, rfl, .inl (SqL.of hl), ?_⟩
      refine ⟨p, _, n + i, rfl, g.pot, by omega, by omega, by omega, fun d H3 d0 d1 g3 => ?_⟩
      have hd : d.toNat < left.length := by omega
      have hl3 := g3.at hl nlp
      have hf3 := g3.at hf nfp
      refine ⟨ll, _, d, d.toNat, left[d.toNat], rfl, rfl, hl3, by omega, by omega, seqIndex_of d0 (by omega), List.getElem?_eq_getElem hd, ?_⟩
      have hf4 : upd H3 ll (.lst (left.eraseIdx d.toNat)) lf = some (.lst us) := by rw [upd_ne nlf'.symm]; exact hf3
      refine ⟨lf, _, _, rfl, rfl, hf4, by omega, ?_⟩
      refine ⟨_, left.eraseIdx d.toNat, us ++ [left[d.toNat]], rfl, by rw [upd_ne nlf', upd_same], upd_same, by rw [List.length_append, lu]; rfl, ?_, fun u hu => ?_, fun u hu => sub2 u (List.mem_of_mem_eraseIdx hu), ?_⟩
      · have := List.length_eraseIdx_of_lt hd
        omega
      · rcases List.mem_append.mp hu with h | h
        · exact sub u h
        · rw [List.mem_singleton.mp h]
          exact sub2 _ (List.getElem_mem hd)
      · exact ((Go.trans g g3).over nll nlp).over (show H lf = none from Same.free Sl nlf) nfp
    case fin =>
      rintro σ H1 ⟨s5, left, us, rfl, hl, hf, lu, ll1, sub, sub2, g⟩
      exact ⟨_, rfl, q lf us H1 lu sub hf nfp g⟩
theorem ok__law_height {fd : FuncData} (F : Fun K "_law_height" "_law_height" s__law_height a._law_height fd) (T : Txt K mg a) :
    Fn P w K mg base CX0 1 a._law_height fd ["_law_one", "_law_other", "_law_dot"] spHeight := by
  refine ok F sc__law_height (fun vs H Q E h => ?len) (fun cdv A outer s H vs Q E hq hr h => ⟨_,
      (pss_cons (ps_asg (pv 2) (pg_tup rfl (pgs_cons (pg_name (i := 3) sc__law_height.nd rfl (Or.inl rfl)) (pgs_cons (pg_name (i := 4) sc__law_height.nd rfl (Or.inl rfl)) (pgs_cons (pg_name (i := 5) sc__law_height.nd rfl (Or.inl rfl)) pgs_nil)))))
      (pss_cons (ps_set (i := 6) sc__law_height.nd rfl (Or.inl rfl) (pe_op op_mulW (pe_op op_sub (pe_ix ix_tup (pv 1) pe_int (fun _ _ => rfl)) (pe_ix ix_tup (pv 0) pe_int (fun _ _ => rfl))) (pe_op op_sub (pv 4) (pe_op op_mulW (pe_ix ix_tup (pv 0) pe_int (fun _ _ => rfl)) (pv 5)))))
      (pss_one (ps_ret (pe_op op_sub (pv 6) (pe_op op_mulW (pe_op op_sub (pe_ix ix_tup (pv 1) pe_int (fun _ _ => rfl)) (pe_ix ix_tup (pv 0) pe_int (fun _ _ => rfl))) (pe_op op_sub (pv 3) (pe_op op_mulW (pe_ix ix_tup (pv 0) pe_int (fun _ _ => rfl)) (pv 5))))))))), ?body⟩)
  case len => obtain ⟨v, w, z, a, b, c, d, x, y, e, k, rfl, _⟩ := h; rfl
  case body =>
    obtain ⟨v, w, z, x1, y1, x2, y2, x, y, e, k, rfl, ⟨t1, rfl, h1⟩, ⟨t2, rfl, h2⟩, ⟨t3, rfl, h3⟩, i1, i2, i3, i4, i5, i6, i7, hk, q⟩ := h
    refine ⟨_, rfl, t3, _, rfl, SqT.of h3, rfl, _, _, rfl, _, _, rfl, _, _, rfl, rfl, ?_⟩
    refine ⟨_, rfl, t2, _, _, _, rfl, rfl, SqT.of h2, rfl, _, rfl, t1, _, _, _, rfl, rfl, SqT.of h1, rfl, _, _, rfl, rfl, _, rfl, _, rfl, t1, _, _, _, rfl, rfl, SqT.of h1, rfl, _, rfl, _, _, rfl, rfl, i2.cw i7 (by omega) (by omega), _, _, rfl, rfl, _, _, rfl, rfl, ?_, ?_⟩
    · exact (i3.sub i1).cw ((i6.mono (n := k + 10) (by omega)).sub ((i2.mul i7).mono (by omega))) (by omega) (by omega)
    refine ⟨_, rfl, _, rfl, t2, _, _, _, rfl, rfl, SqT.of h2, rfl, _, rfl, t1, _, _, _, rfl, rfl, SqT.of h1, rfl, _, _, rfl, rfl, _, rfl, _, rfl, t1, _, _, _, rfl, rfl, SqT.of h1, rfl, _, rfl, _, _, rfl, rfl, i1.cw i7 (by omega) (by omega), _, _, rfl, rfl, _, _, rfl, rfl, ?_, _, _, rfl, rfl, q⟩
    exact (i4.sub i2).cw ((i5.mono (n := k + 10) (by omega)).sub ((i1.mul i7).mono (by omega))) (by omega) (by omega)
theorem ok__law_common {fd : FuncData} (F : Fun K "_law_common" "_law_common" s__law_common a._law_common fd) (T : Txt K mg a) :
    Fn P w K mg base CX0 1 a._law_common fd ["_law_one", "_law_other"] spCommon := by
  refine ok F sc__law_common (fun vs H Q E h => ?len) (fun cdv A outer s H vs Q E hq hr h => ⟨_,
      (pss_cons (ps_par (i := 2) (j := 3) (by rfl) sc__law_common.nd rfl rfl (by decide) rfl rfl (pa_cons (pe_callB call_abs (by rfl) T.n_abs (by decide +kernel) (pa_cons (pe_callTy call_int1 (by rfl) T.n_int (by decide +kernel) (pa_cons (pv 0) pa_nil)) pa_nil)) (pa_cons (pe_callB call_abs (by rfl) T.n_abs (by decide +kernel) (pa_cons (pe_callTy call_int1 (by rfl) T.n_int (by decide +kernel) (pa_cons (pv 1) pa_nil)) pa_nil)) pa_nil)) (by rfl))
      (pss_cons (ps_while PassesOwn.never (pt_cmpR op_gt (pv 3) pe_int (nomark _)) (pss_one (ps_par (i := 2) (j := 3) (by rfl) sc__law_common.nd rfl rfl (by decide) rfl rfl (pa_cons (pv 3) (pa_cons (pe_op op_modN (pe_callTy call_int1 (by rfl) T.n_int (by decide +kernel) (pa_cons (pv 2) pa_nil)) (pe_callTy call_int1 (by rfl) T.n_int (by decide +kernel) (pa_cons (pv 3) pa_nil))) pa_nil)) (by rfl))))
      (pss_one (ps_ret (pv 2))))), ?body⟩)
  case len => obtain ⟨x, y, rfl, _⟩ := h; rfl
  case body =>
    obtain ⟨x, y, rfl, q⟩ := h
    refine ⟨_, rfl, .inl ⟨_, rfl, _, rfl, _, rfl, .inl ⟨_, rfl, _, rfl, _, _, rfl, ?_⟩⟩⟩
    refine while_by (fun σ' H' => ∃ l r : Int, σ' = [some (.int x), some (.int y), some (.int l), some (.int r)] ∧ 0 ≤ l ∧ 0 ≤ r ∧ Nat.gcd l.natAbs r.natAbs = Nat.gcd x.natAbs y.natAbs ∧ H' = H)
      (fun σ' _ => match σ' with | [_, _, _, some (.int r)] => r.toNat | _ => 0) ⟨_, _, rfl, ?_, ?_, ?_, rfl⟩ ?_ ?_
    · show (0 : Int) ≤ if x < 0 then -x else x
      split <;> omega
    · show (0 : Int) ≤ if y < 0 then -y else y
      split <;> omega
    · show Nat.gcd (if x < 0 then -x else x).natAbs (if y < 0 then -y else y).natAbs = _
      have e1 : (if x < 0 then -x else x).natAbs = x.natAbs := by split <;> omega
      have e2 : (if y < 0 then -y else y).natAbs = y.natAbs := by split <;> omega
      rw [e1, e2]
    · rintro σ' H' ⟨l, r, rfl, hl, hr0, hg, rfl⟩
      refine ⟨_, rfl, _, _, rfl, rfl, _, rfl, ite2 (fun c => ?_) (fun c => ?_)⟩
      · have c0 : 0 < r := of_decide_eq_true c
        refine ⟨_, rfl, _, rfl, .inl ⟨_, rfl, _, rfl, .inl ⟨_, rfl, _, _, rfl, rfl, (by show r ≠ 0; omega), _, _, rfl, ⟨_, _, rfl, hr0, ?_, ?_, rfl⟩, ?_⟩⟩⟩
        · exact Int.fmod_nonneg_of_pos _ c0
        · rw [gcd_step hl c0]
          exact hg
        · show (l.fmod r).toNat < r.toNat
          have h1 := Int.fmod_lt_of_pos l c0
          have h2 := Int.fmod_nonneg_of_pos l c0
          omega
      · have c0 : r = 0 := by
          have : ¬ 0 < r := fun z => c (decide_eq_true z)
          omega
        subst c0
        have e : ((Nat.gcd x.natAbs y.natAbs : Nat) : Int) = l := by
          rw [← hg, show (0 : Int).natAbs = 0 from rfl, Nat.gcd_zero_right]
          omega
        rw [e] at q
        exact ⟨_, rfl, q⟩
    · rintro σ' H' Q1 Q2 imp ⟨v, e1, i, j, e2, e3, k, e4, z⟩
      exact ⟨v, e1, i, j, e2, e3, k, e4, imp _ _ z⟩

theorem ok__law_spot {fd : FuncData} (F : Fun K "_law_spot" "_law_spot" s__law_spot a._law_spot fd) (T : Txt K mg a)
    {fd__law_common : FuncData} (G__law_common : Fn P w K mg base CX0 1 a._law_common fd__law_common ["_law_one", "_law_other"] spCommon) (b__law_common : Binds K fd__law_common ["_law_one", "_law_other"] []) :
    Fn P w K mg base CX0 2 a._law_spot fd ["_law_x", "_law_y", "_law_d"] spSpot := by
  refine ok F sc__law_spot (fun vs H Q E h => ?len) (fun cdv A outer s H vs Q E hq hr h => ⟨_,
      (pss_cons (ps_set (i := 3) sc__law_spot.nd rfl (Or.inl rfl) (pe_fn G__law_common hq (hr.mono (by omega)) (by rfl) T.g__law_common T.k__law_common b__law_common .nil pass0 (pa_cons (pe_fn G__law_common hq (hr.mono (by omega)) (by rfl) T.g__law_common T.k__law_common b__law_common .nil pass0 (pa_cons (pv 0) (pa_cons (pv 1) pa_nil))) (pa_cons (pv 2) pa_nil))))
      (pss_cons (ps_set (i := 3) sc__law_spot.nd rfl (Or.inl rfl) (pe_ifExp (pt_cmpR op_lt (pv 2) pe_int (nomark _)) (pe_un un_neg (pv 3)) (pv 3)))
      (pss_one (ps_ret (pe_tup (pa_cons (pe_op op_fdivZ (pv 0) (pv 3)) (pa_cons (pe_op op_fdivZ (pv 1) (pv 3)) (pa_cons (pe_op op_fdivZ (pv 2) (pv 3)) pa_nil)))))))), ?body⟩)
  case len => obtain ⟨x, y, d, k, rfl, _⟩ := h; rfl
  case body =>
    obtain ⟨x, y, d, k, rfl, h0, ix, iy, id, hk, q⟩ := h
    obtain ⟨g, hg⟩ : ∃ g : Int, g = ((Nat.gcd (Nat.gcd x.natAbs y.natAbs) d.natAbs : Nat) : Int) := ⟨_, rfl⟩
    have ng : ((((Nat.gcd x.natAbs y.natAbs : Nat) : Int)).natAbs : Nat) = Nat.gcd x.natAbs y.natAbs := rfl
    refine ⟨_, rfl, _, rfl, x, y, rfl, _, rfl, _, d, rfl, ?_⟩
    rw [ng, ← hg]
    have g0 : 0 < g := by
      have := Nat.gcd_pos_of_pos_right (Nat.gcd x.natAbs y.natAbs) (show 0 < d.natAbs by omega)
      omega
    have gl : g.natAbs ≤ d.natAbs := by
      rw [hg]
      exact Nat.le_of_dvd (by omega) (Nat.gcd_dvd_right _ _)
    have dd : g ∣ d := by rw [hg]; exact Int.natAbs_dvd_natAbs.mp (Nat.gcd_dvd_right _ _)
    have dx : g ∣ x := by rw [hg]; exact Int.natAbs_dvd_natAbs.mp (Nat.dvd_trans (Nat.gcd_dvd_left _ _) (Nat.gcd_dvd_left _ _))
    have dy : g ∣ y := by rw [hg]; exact Int.natAbs_dvd_natAbs.mp (Nat.dvd_trans (Nat.gcd_dvd_left _ _) (Nat.gcd_dvd_right _ _))
    have fin : ∀ e : Int, e = (if d < 0 then -g else g) → (e ≠ 0 ∧ e.natAbs.log2 < 9000) ∧ ∀ p, H p = none → Q (.ref p) (upd H p (.tup [.int (x.fdiv e), .int (y.fdiv e), .int (d.fdiv e)])) := fun e he => by
      have e0 : e ≠ 0 := by rw [he]; split <;> omega
      have en : e.natAbs = g.natAbs := by rw [he]; split <;> omega
      have dv : ∀ z, g ∣ z → ∃ m, z = e * m ∧ m.natAbs ≤ z.natAbs := fun z hz => by
        have : e ∣ z := Int.natAbs_dvd_natAbs.mp (by rw [en]; exact Int.natAbs_dvd_natAbs.mpr hz)
        obtain ⟨m, hm⟩ := this
        refine ⟨m, hm, ?_⟩
        rw [hm, Int.natAbs_mul]
        exact Nat.le_mul_of_pos_left _ (by omega)
      obtain ⟨m1, x1, l1⟩ := dv x dx
      obtain ⟨m2, x2, l2⟩ := dv y dy
      obtain ⟨m3, x3, l3⟩ := dv d dd
      have pos : 0 < m3 := by
        by_cases c : d < 0
        · rw [if_pos c] at he
          rw [x3] at c
          exact Int.pos_of_mul_neg_right c (by omega)
        · rw [if_neg c] at he
          have : 0 < e * m3 := by omega
          exact Int.lt_of_mul_lt_mul_left (a := e) (by rw [Int.mul_zero]; exact this) (by omega)
      have f : ∀ m : Int, (e * m).fdiv e = m := fun m => Int.mul_fdiv_cancel_left m e0
      refine ⟨⟨e0, log_of (show e.natAbs < 2 ^ 8000 from ?_)⟩, fun p hp => ?_⟩
      · rw [en]
        exact Nat.lt_of_le_of_lt gl (id.mono (by omega))
      · refine q _ _ m1 m2 m3 (same_new hp) ⟨⟨p, rfl, ?_⟩, pos, Nat.lt_of_le_of_lt l1 ix, Nat.lt_of_le_of_lt l2 iy, Nat.lt_of_le_of_lt l3 id⟩ ?_ ?_
        · rw [upd_same, x1, x2, x3, f, f, f]
          rfl
        · rw [x1, x3]
          grind
        · rw [x2, x3]
          grind
    refine ⟨_, rfl, _, _, rfl, rfl, _, rfl, ite2 (fun c => ?_) (fun c => ?_)⟩
    · obtain ⟨⟨e1, e2⟩, e3⟩ := fin (-g) (by rw [if_pos (of_decide_eq_true c)])
      exact ⟨_, rfl, _, rfl, _, rfl, _, rfl, _, _, rfl, rfl, ⟨e1, e2⟩, _, rfl, _, rfl, _, _, rfl, rfl, ⟨e1, e2⟩, _, rfl, _, rfl, _, _, rfl, rfl, ⟨e1, e2⟩, (by show 3 ≤ sizeLine; decide), e3⟩
    · obtain ⟨⟨e1, e2⟩, e3⟩ := fin g (by rw [if_neg fun z => c (decide_eq_true z)])
      exact ⟨_, rfl, _, rfl, _, rfl, _, _, rfl, rfl, ⟨e1, e2⟩, _, rfl, _, rfl, _, _, rfl, rfl, ⟨e1, e2⟩, _, rfl, _, rfl, _, _, rfl, rfl, ⟨e1, e2⟩, (by show 3 ≤ sizeLine; decide), e3⟩
theorem ok__law_cross {fd : FuncData} (F : Fun K "_law_cross" "_law_cross" s__law_cross a._law_cross fd) (T : Txt K mg a)
    {fd__law_spot : FuncData} (G__law_spot : Fn P w K mg base CX0 2 a._law_spot fd__law_spot ["_law_x", "_law_y", "_law_d"] spSpot) (b__law_spot : Binds K fd__law_spot ["_law_x", "_law_y", "_law_d"] []) :
    Fn P w K mg base CX0 3 a._law_cross fd ["_law_one", "_law_other"] spCross := by
  refine ok F sc__law_cross (fun vs H Q E h => ?len) (fun cdv A outer s H vs Q E hq hr h => ⟨_,
      (pss_cons (ps_asg (pv 0) (pg_tup rfl (pgs_cons (pg_tup rfl (pgs_cons (pg_name (i := 2) sc__law_cross.nd rfl (Or.inl rfl)) (pgs_cons (pg_name (i := 3) sc__law_cross.nd rfl (Or.inl rfl)) pgs_nil))) (pgs_cons (pg_tup rfl (pgs_cons (pg_name (i := 4) sc__law_cross.nd rfl (Or.inl rfl)) (pgs_cons (pg_name (i := 5) sc__law_cross.nd rfl (Or.inl rfl)) pgs_nil))) pgs_nil))))
      (pss_cons (ps_asg (pv 1) (pg_tup rfl (pgs_cons (pg_tup rfl (pgs_cons (pg_name (i := 6) sc__law_cross.nd rfl (Or.inl rfl)) (pgs_cons (pg_name (i := 7) sc__law_cross.nd rfl (Or.inl rfl)) pgs_nil))) (pgs_cons (pg_tup rfl (pgs_cons (pg_name (i := 8) sc__law_cross.nd rfl (Or.inl rfl)) (pgs_cons (pg_name (i := 9) sc__law_cross.nd rfl (Or.inl rfl)) pgs_nil))) pgs_nil))))
      (pss_cons (ps_set (i := 10) sc__law_cross.nd rfl (Or.inl rfl) (pe_op op_sub (pe_op op_mulW (pe_op op_sub (pv 4) (pv 2)) (pe_op op_sub (pv 9) (pv 7))) (pe_op op_mulW (pe_op op_sub (pv 5) (pv 3)) (pe_op op_sub (pv 8) (pv 6)))))
      (pss_cons (ps_if (pt_cmpR op_eq (pv 10) pe_int (nomark _)) (pss_one (ps_ret pe_non)) pss_nil)
      (pss_cons (ps_set (i := 11) sc__law_cross.nd rfl (Or.inl rfl) (pe_op op_sub (pe_op op_mulW (pe_op op_sub (pv 6) (pv 2)) (pe_op op_sub (pv 9) (pv 7))) (pe_op op_mulW (pe_op op_sub (pv 7) (pv 3)) (pe_op op_sub (pv 8) (pv 6)))))
      (pss_one (ps_ret (pe_fn G__law_spot hq (hr.mono (by omega)) (by rfl) T.g__law_spot T.k__law_spot b__law_spot .nil pass0 (pa_cons (pe_op op_add (pe_op op_mulW (pv 2) (pv 10)) (pe_op op_mulW (pv 11) (pe_op op_sub (pv 4) (pv 2)))) (pa_cons (pe_op op_add (pe_op op_mulW (pv 3) (pv 10)) (pe_op op_mulW (pv 11) (pe_op op_sub (pv 5) (pv 3)))) (pa_cons (pv 10) pa_nil))))))))))), ?body⟩)
  case len => obtain ⟨v, w, a, b, c, d, e, f, g, h, rfl, _⟩ := h; rfl
  case body =>
    obtain ⟨v, w, x1, y1, x2, y2, x3, y3, x4, y4, rfl, ⟨t1, q1, r1, rfl, h1, h2, h3⟩, ⟨t2, q2, r2, rfl, h4, h5, h6⟩, ⟨i1, i2, i3, i4⟩, ⟨i5, i6, i7, i8⟩, qn, q⟩ := h
    have c1 : CMulW (x2 - x1) (y4 - y3) := (i3.sub i1).cw (i8.sub i6) (by omega) (by omega)
    have c2 : CMulW (y2 - y1) (x4 - x3) := (i4.sub i2).cw (i7.sub i5) (by omega) (by omega)
    have c3 : CMulW (x3 - x1) (y4 - y3) := (i5.sub i1).cw (i8.sub i6) (by omega) (by omega)
    have c4 : CMulW (y3 - y1) (x4 - x3) := (i6.sub i2).cw (i7.sub i5) (by omega) (by omega)
    have b1 : Ib 23 ((x2 - x1) * (y4 - y3) - (y2 - y1) * (x4 - x3)) := ((i3.sub i1).mul (i8.sub i6)).sub ((i4.sub i2).mul (i7.sub i5))
    have b2 : Ib 23 ((x3 - x1) * (y4 - y3) - (y3 - y1) * (x4 - x3)) := ((i5.sub i1).mul (i8.sub i6)).sub ((i6.sub i2).mul (i7.sub i5))
    refine ⟨_, rfl, t1, _, rfl, SqT.of h1, rfl, _, _, rfl, q1, _, rfl, SqT.of h2, rfl, _, _, rfl, _, _, rfl, rfl, _, _, rfl, r1, _, rfl, SqT.of h3, rfl, _, _, rfl, _, _, rfl, rfl, rfl, _, rfl, t2, _, rfl, SqT.of h4, rfl, _, _, rfl, q2, _, rfl, SqT.of h5, rfl, _, _, rfl, _, _, rfl, rfl, _, _, rfl, r2, _, rfl, SqT.of h6, rfl, _, _, rfl, _, _, rfl, rfl, rfl, ?_⟩
    show tSeq _ _ _ [some (V.ref t1), some (V.ref t2), some (V.int x1), some (V.int y1), some (V.int x2), some (V.int y2), some (V.int x3), some (V.int y3), some (V.int x4), some (V.int y4), none, none] H
    refine ⟨_, rfl, _, rfl, _, _, rfl, rfl, _, rfl, _, rfl, _, _, rfl, rfl, _, _, rfl, rfl, c1, _, rfl, _, rfl, _, _, rfl, rfl, _, rfl, _, rfl, _, _, rfl, rfl, _, _, rfl, rfl, c2, _, _, rfl, rfl, ?_⟩
    show tSeq _ _ _ [some (V.ref t1), some (V.ref t2), some (V.int x1), some (V.int y1), some (V.int x2), some (V.int y2), some (V.int x3), some (V.int y3), some (V.int x4), some (V.int y4), some (.int ((x2 - x1) * (y4 - y3) - (y2 - y1) * (x4 - x3))), none] H
    refine ⟨_, rfl, rfl, _, rfl, ite2 (fun c => qn H (Same.refl _)) (fun c => ?_)⟩
    have ne : ((x2 - x1) * (y4 - y3) - (y2 - y1) * (x4 - x3)) ≠ 0 := fun z => c (by show decide (V.int ((x2 - x1) * (y4 - y3) - (y2 - y1) * (x4 - x3)) = V.int 0) = true; rw [z]; rfl)
    refine ⟨_, rfl, _, rfl, _, _, rfl, rfl, _, rfl, _, rfl, _, _, rfl, rfl, _, _, rfl, rfl, c3, _, rfl, _, rfl, _, _, rfl, rfl, _, rfl, _, rfl, _, _, rfl, rfl, _, _, rfl, rfl, c4, _, _, rfl, rfl, ?_⟩
    show gName 11 (.int ((x3 - x1) * (y4 - y3) - (y3 - y1) * (x4 - x3))) [some (V.ref t1), some (V.ref t2), some (V.int x1), some (V.int y1), some (V.int x2), some (V.int y2), some (V.int x3), some (V.int y3), some (V.int x4), some (V.int y4), some (.int ((x2 - x1) * (y4 - y3) - (y2 - y1) * (x4 - x3))), none] H _
    refine ⟨_, rfl, _, rfl, _, _, rfl, rfl, i1.cw b1 (by omega) (by omega), _, rfl, _, rfl, _, rfl, _, _, rfl, rfl, _, _, rfl, rfl, b2.cw (i3.sub i1) (by omega) (by omega), _, _, rfl, rfl, ?_⟩
    refine ⟨_, rfl, _, rfl, _, _, rfl, rfl, i2.cw b1 (by omega) (by omega), _, rfl, _, rfl, _, rfl, _, _, rfl, rfl, _, _, rfl, rfl, b2.cw (i4.sub i2) (by omega) (by omega), _, _, rfl, rfl, _, rfl, ?_⟩
    refine ⟨_, _, _, 60, rfl, ne, ?_, ?_, b1.mono (by omega), by omega, fun v H' x' y' d' S' dt _ _ => q v H' x' y' d' S' dt⟩
    · exact (((i1.mul b1).mono (n := 40) (by omega)).add ((b2.mul (i3.sub i1)).mono (by omega))).mono (by omega)
    · exact (((i2.mul b1).mono (n := 40) (by omega)).add ((b2.mul (i4.sub i2)).mono (by omega))).mono (by omega)
theorem ok__law_made_point {fd : FuncData} (F : Fun K "_law_made_point" "_law_made_point" s__law_made_point a._law_made_point fd) (T : Txt K mg a)
    {fd_Point___init__ : FuncData} (G_Point___init__ : FnOk P w K mg base CX0 6 a.Point___init__ fd_Point___init__ ["self", "x", "y"] (spPInit a.Ratio a.Point)) (b_Point___init__ : Binds K fd_Point___init__ ["self", "x", "y"] [])
    {fd_Ratio___init__ : FuncData} (G_Ratio___init__ : FnOk P w K mg base CX0 2 a.Ratio___init__ fd_Ratio___init__ ["self", "number", "under"] (spInit K a.Ratio)) (b_Ratio___init__ : Binds K fd_Ratio___init__ ["self", "number", "under"] [])
    {ds_Ratio___init__ : List Value} (d_Ratio___init__ : Vals [.int 1] ds_Ratio___init__ ∧ Binds K fd_Ratio___init__ ["self", "number", "under"] ds_Ratio___init__) :
    Fn P w K mg base CX0 8 a._law_made_point fd ["_law_dot"] (spMp a.Ratio a.Point) := by
  refine ok F sc__law_made_point (fun vs H Q E h => ?len) (fun cdv A outer s H vs Q E hq hr h => ⟨_,
      (pss_one (ps_ret (pe_make T.m_Point G_Point___init__ (hr.mono (by omega)) (by rfl) T.g_Point b_Point___init__ .nil pass0 (pa_cons (pe_make T.m_Ratio G_Ratio___init__ (hr.mono (by omega)) (by rfl) T.g_Ratio b_Ratio___init__ .nil pass0 (pa_cons (pe_ix ix_tup (pv 0) pe_int (fun _ _ => rfl)) (pa_cons (pe_ix ix_tup (pv 0) pe_int (fun _ _ => rfl)) pa_nil))) (pa_cons (pe_make T.m_Ratio G_Ratio___init__ (hr.mono (by omega)) (by rfl) T.g_Ratio b_Ratio___init__ .nil pass0 (pa_cons (pe_ix ix_tup (pv 0) pe_int (fun _ _ => rfl)) (pa_cons (pe_ix ix_tup (pv 0) pe_int (fun _ _ => rfl)) pa_nil))) pa_nil))))), ?body⟩)
  case len => obtain ⟨v, k, x, y, d, rfl, _⟩ := h; rfl
  case body =>
    obtain ⟨v, k, x, y, d, rfl, ⟨⟨t, rfl, ht⟩, d0, ix, iy, id⟩, hk, q⟩ := h
    have ud : Ud d := id.mono (by omega)
    have dn : d ≠ 0 := by omega
    refine ⟨_, rfl, _, _, _, _, rfl, rfl, SqT.of ht, rfl, _, rfl, _, _, _, _, rfl, rfl, SqT.of ht, rfl, ?_⟩
    intro z1 e1 f1 f2 f3
    refine mk_q2 dn ud f1 f2 f3 fun H1 S1 r1 => ⟨rfl, ?_⟩
    refine ⟨_, rfl, _, _, _, _, rfl, rfl, SqT.of (S1 _ _ ht), rfl, _, rfl, _, _, _, _, rfl, rfl, SqT.of (S1 _ _ ht), rfl, ?_⟩
    intro z2 e2 f4 f5 f6
    refine mk_q2 dn ud f4 f5 f6 fun H2 S2 r2 => ⟨rfl, ?_⟩
    intro x dx c8 c9 c10
    exact mk_pt (.inr (r1.same S2)) (.inr r2) c8 c9 c10 fun H3 S3 pt => ⟨rfl, q _ H3 ((S1.trans S2).trans S3) pt⟩
end
end My

namespace My
open PySem PySem.Spec PyProof.Rows L2 G
abbrev s__law_fits : Stmt := topS 50
theorem sc__law_fits : FnScope ["_law_found", "_law_dot", "_law_dots", "_law_at", "_law_one", "_law_other", "_law_name", "_law_place"] ["_law_found", "_law_dot"] (defScope s__law_fits) := ⟨rfl, rfl, rfl, by decide +kernel, rfl, by decide +kernel, by decide +kernel⟩

abbrev s__law_lines : Stmt := topS 51
theorem sc__law_lines : FnScope ["_law_marks_here", "_law_found", "_law_at", "_law_name", "_law_one", "_law_second", "_law_other"] ["_law_marks_here"] (defScope s__law_lines) := ⟨rfl, rfl, rfl, by decide +kernel, rfl, by decide +kernel, by decide +kernel⟩

def Fits (ms : List (Int × Int)) (p : Int × Int) : Prop := (∀ (i j : Nat) (a b : Int × Int), j < i → ms[i]? = some a → ms[j]? = some b → hgt a.1 a.2 b.1 b.2 p.1 p.2 1 ≠ 0) ∧ p ∉ ms
def spFits : Sp := fun vs H Q _ => ∃ l v us ms p, vs = [.ref l, v] ∧ H l = some (.lst us) ∧ Mks H us ms ∧ us.length ≤ 100 ∧ Pt H v [p.1, p.2] ∧ Nr p ∧ ∀ (b : Bool) H', (b = true ↔ Fits ms p) → Same H H' → Q (.bl b) H'
def spLines : Sp := fun vs H Q _ => ∃ l us ms, vs = [.ref l] ∧ H l = some (.lst us) ∧ Mks H us ms ∧ us.length ≤ 3 ∧ 2 ≤ us.length ∧ ∀ m ws H', H m = none → Same H H' → H' m = some (.lst ws) → 1 ≤ ws.length → ws.length ≤ 100 → (∀ u ∈ ws, ∃ a b c d, LineAt H' u a b c d ∧ Nr (a, b) ∧ Nr (c, d)) → Q (.ref m) H'
def spMarks : Sp := fun vs H Q _ => ∃ (p : Addr) (n : Nat), vs = [.ref p, .int 3] ∧ PotAt H p n ∧ n ≤ 1000 ∧ ∀ m us ms H', Go p (n + 130) H H' → H' m = some (.lst us) → m ≠ p → Mks H' us ms → us.length = 3 → ms.Nodup → Q (.ref m) H'
def spDrawn : Sp := fun vs H Q _ => ∃ (p m : Addr) (n : Nat) (us : List V) (ms : List (Int × Int)), vs = [.ref p, .ref m] ∧ PotAt H p n ∧ n ≤ 2000 ∧ H m = some (.lst us) ∧ m ≠ p ∧ Mks H us ms ∧ us.length = 3 ∧ ∀ v x y d H', Go p (n + 5) H H' → Dot H' v 60 x y d → Q v H'
theorem cutV_pre (xs : List V) (j : Nat) : cutV xs none (some (j : Int)) = xs.take j := by
  unfold cutV
  rw [HT.sIx_nat, HT.sIx_none, List.drop_zero, Nat.sub_zero]
  by_cases h : j ≤ xs.length
  · rw [Nat.min_eq_left h]
  · rw [Nat.min_eq_right (by omega), List.take_of_length_le (Nat.le_refl _), List.take_of_length_le (by omega)]
theorem cutV_suf (xs : List V) (j : Nat) : cutV xs (some (j : Int)) none = xs.drop j := by
  unfold cutV
  rw [HT.sIx_nat, HT.sIx_none]
  by_cases h : j ≤ xs.length
  · rw [Nat.min_eq_left h, List.take_of_length_le (by rw [List.length_drop]; omega)]
  · rw [Nat.min_eq_right (by omega), List.drop_of_length_le (Nat.le_refl _), List.drop_of_length_le (by omega), List.take_nil]
def plD (x : Int × Int) : PyData := .tuple [.int x.1, .int x.2]
theorem pl_dp {K : PySem.W.Frag} {H : Hp} {v : V} {x : Int × Int} (h : Pt H v [x.1, x.2]) : Dp K H v (plD x) := by
  obtain ⟨t, rfl, e⟩ := h
  exact .tup (SqT.of e) (.cons (.int _) (.cons (.int _) .nil))
theorem pls_dp {K : PySem.W.Frag} {H : Hp} : ∀ {vs : List V} {xs : List (Int × Int)}, Paired (fun v x => Pt H v [x.1, x.2]) vs xs → DpAll K H vs (xs.map plD)
  | _, _, .nil => .nil
  | _, _, .cons h t => .cons (pl_dp h) (pls_dp t)
theorem pl_eqv (x y : Int × Int) : PyData.eqv (plD x) (plD y) = decide (x = y) := by
  obtain ⟨a, b⟩ := x
  obtain ⟨c, d⟩ := y
  simp [plD, PyData.eqv, PyData.eqvAll, Prod.ext_iff, Bool.decide_and]
  rw [show (a == c) = decide (a = c) from rfl, show (b == d) = decide (b = d) from rfl]
theorem pl_shaped (x : Int × Int) : SeqAt.shaped (plD x) = true := rfl
theorem pls_all : ∀ (xs : List (Int × Int)), PyData.canLayAll0 (xs.map plD) = true ∧ PyData.depthAll (xs.map plD) ≤ 1
  | [] => ⟨rfl, Nat.zero_le _⟩
  | x :: xs => by
    obtain ⟨h1, h2⟩ := pls_all xs
    refine ⟨h1, ?_⟩
    show Nat.max (PyData.depth (plD x)) (PyData.depthAll (xs.map plD)) ≤ 1
    exact Nat.max_le.mpr ⟨Nat.le_refl _, h2⟩
theorem pls_shaped (xs : List (Int × Int)) : SeqAt.shaped (.list (xs.map plD)) = true := by
  obtain ⟨h1, h2⟩ := pls_all xs
  unfold SeqAt.shaped
  rw [Bool.and_eq_true]
  refine ⟨h1, decide_eq_true ?_⟩
  simp only [PyData.depth]
  omega
theorem pls_any (xs : List (Int × Int)) (p : Int × Int) : (xs.map plD).any (fun z => PyData.eqv z (plD p)) = true ↔ p ∈ xs := by
  rw [List.any_map, List.any_eq_true]
  constructor
  · rintro ⟨x, hx, e⟩
    have : decide (x = p) = true := by rw [← pl_eqv]; exact e
    exact of_decide_eq_true this ▸ hx
  · intro h
    refine ⟨p, h, ?_⟩
    show PyData.eqv (plD p) (plD p) = true
    rw [pl_eqv]
    exact decide_eq_true rfl
theorem paired_of {α : Type} {R : V → α → Prop} : ∀ {vs : List V} {xs : List α}, vs.length = xs.length → (∀ (i : Nat) (v : V) (x : α), vs[i]? = some v → xs[i]? = some x → R v x) → Paired R vs xs
  | [], [], _, _ => .nil
  | _ :: _, _ :: _, hl, h => .cons (h 0 _ _ rfl rfl) (paired_of (by simpa using hl) fun i v x e1 e2 => h (i + 1) v x e1 e2)
theorem paired_at {α : Type} {R : V → α → Prop} : ∀ {vs : List V} {xs : List α}, Paired R vs xs → ∀ {i : Nat} {v : V}, vs[i]? = some v → ∃ x, xs[i]? = some x ∧ R v x
  | _, _, .nil, _, _, e => by simp at e
  | _, _, .cons h t, 0, _, e => by cases e; exact ⟨_, rfl, h⟩
  | _, _, .cons h t, i + 1, _, e => paired_at t (by simpa using e)
section
variable {P : Program} {w : World} {K : PySem.W.Frag} {mg : Str → Option Value} {base : Heap} {a : Ad}
theorem ok__law_fits {fd : FuncData} (F : Fun K "_law_fits" "_law_fits" s__law_fits a._law_fits fd) (T : Txt K mg a)
    {fd__law_height : FuncData} (G__law_height : Fn P w K mg base CX0 1 a._law_height fd__law_height ["_law_one", "_law_other", "_law_dot"] spHeight) (b__law_height : Binds K fd__law_height ["_law_one", "_law_other", "_law_dot"] []) :
    Fn P w K mg base CX0 2 a._law_fits fd ["_law_found", "_law_dot"] spFits := by
  refine ok F sc__law_fits (fun vs H Q E h => ?len) (fun cdv A outer s H vs Q E hq hr h => ⟨_,
      (pss_cons (ps_setLc (i := 2) (own := [("_law_name", 6), ("_law_place", 7)]) (g := (gTup K 2 (gCons (gName 6) (gCons (gName 7) gNil)))) (tt := tYes) rfl sc__law_fits.nd rfl rfl (sw_true rfl rfl rfl (by decide +kernel)) (pi_list (pv 0)) (blkOk_by (own := [("_law_name", 6), ("_law_place", 7)]) (N := ["_law_found", "_law_dot", "_law_dots", "_law_at", "_law_one", "_law_other", "_law_name", "_law_place"]) (sc := defScope s__law_fits) (by decide +kernel)) (fun _ _ _ _ _ => (pg_tup rfl (pgs_cons (pg_name (i := 6) sc__law_fits.nd rfl (Or.inl rfl) (hf := Or.inr rfl)) (pgs_cons (pg_name (i := 7) sc__law_fits.nd rfl (Or.inl rfl) (hf := Or.inr rfl)) pgs_nil)))) (fun _ _ _ _ _ => pts_nil) (fun _ _ _ _ _ => (pv 7)))
      (pss_cons (ps_for PassesOwn.never rfl (pi_enum (by rfl) T.n_enumerate (pa_cons (pv 2) pa_nil)) (pg_tup rfl (pgs_cons (pg_name (i := 3) sc__law_fits.nd rfl (Or.inl rfl)) (pgs_cons (pg_name (i := 4) sc__law_fits.nd rfl (Or.inl rfl)) pgs_nil))) (pss_one (ps_for PassesOwn.never rfl (pi_list (pe_slice sl_list (pv 2) po_none (po_some (pv 3)))) (pg_name (i := 5) sc__law_fits.nd rfl (Or.inl rfl)) (pss_one (ps_if (pt_cmpR op_eq (pe_fn G__law_height hq (hr.mono (by omega)) (by rfl) T.g__law_height T.k__law_height b__law_height .nil pass0 (pa_cons (pv 4) (pa_cons (pv 5) (pa_cons (pe_op op_catA (pv 1) (pe_tup (pa_cons pe_int pa_nil))) pa_nil)))) pe_int (nomark _)) (pss_one (ps_ret pe_bl)) pss_nil)))))
      (pss_one (ps_ret (pe_cmpR (op_notInD (G.room1 hr)) (pv 1) (pv 2) (by with_unfolding_all rfl)))))), ?body⟩)
  case len => obtain ⟨l, v, us, ms, p, rfl, _⟩ := h; rfl
  case body =>
    obtain ⟨l, v, us, ms, p, rfl, hl, hm, hz, hv, np, q⟩ := h
    have hsz := sizeLine_eq
    have hlm := hm.length
    refine ⟨_, rfl, l, rfl, ⟨_, SqL.of hl⟩, fun D nD => lc_relW walk_list (fun i y H' => ∃ x, ms[i]? = some x ∧ Pt H' y [x.1, x.2]) ?hR nD (fun H' S => S.seq (SqL.of hl)) (by omega) ?he ?hd⟩
    case hR =>
      rintro i y H1 H2 nl ⟨x, hx, t, rfl, e⟩
      exact ⟨x, hx, t, rfl, nl _ _ e (fun zs z => nomatch z)⟩
    case he =>
      rintro i x H1 H2 Q' N hi S ⟨rfl, hx⟩ qy
      obtain ⟨m, hm1, ⟨t, z, u, rfl, e1, e2⟩, hm2⟩ := paired_at hm hx
      refine ⟨t, _, rfl, SqT.of (S _ _ e1), rfl, _, _, rfl, _, _, rfl, rfl, rfl, yesI ⟨_, rfl, ?_⟩⟩
      exact qy _ _ (Same.refl _) ⟨m, hm1, u, rfl, S _ _ e2⟩
    case hd =>
      intro ys H1 S1 hD hly hys
      have hps : Paired (fun v x => Pt H1 v [x.1, x.2]) ys ms := paired_of (by omega) fun i v x e1 e2 => by
        obtain ⟨x', e3, h⟩ := hys i v e1
        rw [e3] at e2
        cases e2
        exact h
      have nr : ∀ (i : Nat) (x : Int × Int), ms[i]? = some x → Nr x := fun i x e => by
        obtain ⟨hi, _⟩ := List.getElem?_eq_some_iff.mp e
        obtain ⟨x', e', _, h⟩ := paired_at hm (List.getElem?_eq_getElem (show i < us.length by omega))
        rw [e'] at e
        cases e
        exact h
      show tSeq _ _ _ [some (.ref l), some v, some (.ref D), none, none, none, none, none] H1
      refine ⟨_, rfl, D, ys, rfl, SqL.of hD, for_it walk_enum (fun i σ H' => Same H1 H' ∧ (∃ s3 s4 s5, σ = [some (.ref l), some v, some (.ref D), s3, s4, s5, none, none]) ∧ ∀ (i' j : Nat) (a b : Int × Int), i' < i → j < i' → ms[i']? = some a → ms[j]? = some b → hgt a.1 a.2 b.1 b.2 p.1 p.2 1 ≠ 0) ?start (fun i σ H' _ h => h.1.seq (SqL.of hD)) ?turn ?fin⟩
      case start => exact ⟨Same.refl _, ⟨_, _, _, rfl⟩, fun i' j a b h => by omega⟩
      case turn =>
        rintro i x σ H2 H3 hi ⟨S2, ⟨s3, s4, s5, rfl⟩, hh⟩ ⟨T1, y0, y, rfl, nT, rfl, ex, ey⟩
        cases ex
        have S3 := S2.trans (same_new (o := .tup [.int (i : Nat), y]) nT)
        obtain ⟨A1, hA, t1, rfl, ht1⟩ := paired_at hps ey
        refine ⟨T1, _, rfl, SqT.of upd_same, rfl, _, _, rfl, _, _, rfl, rfl, ?_⟩
        refine ⟨_, rfl, _, rfl, _, rfl, D, ys, rfl, SqL.of (S3 _ _ hD), fun c nc => ⟨c, rfl, ⟨_, SqL.of upd_same⟩, ?_⟩⟩
        rw [cutV_pre]
        have S4 := S3.trans (same_new (o := .lst (ys.take i)) nc)
        refine for_it walk_list (fun j σ H' => Same (upd (upd H2 T1 (.tup [.int (i : Nat), .ref t1])) c (.lst (ys.take i))) H' ∧ (∃ s5, σ = [some (.ref l), some v, some (.ref D), some (.int (i : Nat)), some (.ref t1), s5, none, none]) ∧ ∀ (j' : Nat) (b : Int × Int), j' < j → ms[j']? = some b → hgt A1.1 A1.2 b.1 b.2 p.1 p.2 1 ≠ 0) ?start2 (fun j σ H' _ h => h.1.seq (SqL.of upd_same)) ?turn2 ?fin2
        case start2 => exact ⟨Same.refl _, ⟨_, rfl⟩, fun j' b h => by omega⟩
        case turn2 =>
          rintro j x σ H4 H5 hj ⟨S5, ⟨s5, rfl⟩, gg⟩ ⟨rfl, hx⟩
          have hji : j < i := by rw [List.length_take] at hj; omega
          rw [List.getElem?_take_of_lt hji] at hx
          obtain ⟨B1, hB, t2, rfl, ht2⟩ := paired_at hps hx
          have S6 := S4.trans S5
          obtain ⟨tv, rfl, htv⟩ := hv
          refine ⟨_, rfl, _, rfl, _, rfl, (by show 1 ≤ sizeLine; decide), fun o no => ⟨tv, o, _, _, rfl, rfl, SqT.of (same_new no _ _ (S6 _ _ (S1 _ _ htv))), SqT.of upd_same, (by show 3 ≤ sizeLine; decide), fun z => (nomatch z), fun _ z => (nomatch z), fun _ _ o2 no2 => ?_⟩⟩
          have S7 := (same_new (o := .tup [.int 1]) no).trans (same_new (o := .tup [.int p.1, .int p.2, .int 1]) no2)
          refine ⟨_, _, _, A1.1, A1.2, B1.1, B1.2, p.1, p.2, 1, 10, rfl, ⟨t1, rfl, S7 _ _ (S6 _ _ ht1)⟩, ⟨t2, rfl, S7 _ _ (S6 _ _ ht2)⟩, ⟨o2, rfl, upd_same⟩, (nr _ _ hA).ib.1, (nr _ _ hA).ib.2, (nr _ _ hB).ib.1, (nr _ _ hB).ib.2, np.ib.1, np.ib.2, (by show (1 : Int).natAbs < 2 ^ 10; decide), by omega, ?_⟩
          refine ⟨rfl, _, rfl, ite2 (fun c => ?_) (fun c => ?_)⟩
          · refine q false _ ⟨fun z => (nomatch z), fun z => ?_⟩ (((S1.trans S6)).trans S7)
            have c0 : hgt A1.1 A1.2 B1.1 B1.2 p.1 p.2 1 = 0 := by
              have := of_decide_eq_true c
              injection this
            exact absurd c0 (z.1 i j A1 B1 hji hA hB)
          · refine ⟨S5.trans S7, ⟨_, rfl⟩, fun j' b hj' hb => ?_⟩
            rcases Nat.lt_or_ge j' j with h | h
            · exact gg j' b h hb
            · have : j' = j := by omega
              subst this
              rw [hB] at hb
              cases hb
              intro z
              refine c ?_
              rw [z]
              rfl
        case fin2 =>
          rintro σ H4 ⟨S5, ⟨s5, rfl⟩, gg⟩
          refine ⟨S4.trans S5, ⟨_, _, _, rfl⟩, fun i' j a b h1 h2 ha hb => ?_⟩
          rcases Nat.lt_or_ge i' i with h | h
          · exact hh i' j a b h h2 ha hb
          · have : i' = i := by omega
            subst this
            rw [hA] at ha
            cases ha
            exact gg j b (by rw [List.length_take]; omega) hb
      case fin =>
        rintro σ H2 ⟨S2, ⟨s3, s4, s5, rfl⟩, hh⟩
        refine ⟨_, rfl, _, rfl, plD p, ms.map plD, pl_dp ((hv.same S1).same S2), .lst (SqL.of (S2 _ _ hD)) (pls_dp (Paired.mapP hps fun _ _ e => e.same S2)), rfl, pls_shaped _, ?_⟩
        refine q _ _ ?_ (S1.trans S2)
        rw [Bool.not_eq_true', ← Bool.not_eq_true, pls_any]
        refine ⟨fun h => ⟨fun i j a b h1 h2 h3 => hh i j a b ?_ h1 h2 h3, h⟩, fun h => h.2⟩
        have := (List.getElem?_eq_some_iff.mp h2).1
        omega
theorem ok__law_lines {fd : FuncData} (F : Fun K "_law_lines" "_law_lines" s__law_lines a._law_lines fd) (T : Txt K mg a) :
    Fn P w K mg base CX0 1 a._law_lines fd ["_law_marks_here"] spLines := by
  refine ok F sc__law_lines (fun vs H Q E h => ?len) (fun cdv A outer s H vs Q E hq hr h => ⟨_,
      (pss_cons (ps_set (i := 1) sc__law_lines.nd rfl (Or.inl rfl) (pe_lstS pa_nil))
      (pss_cons (ps_for PassesOwn.never rfl (pi_enum (by rfl) T.n_enumerate (pa_cons (pv 0) pa_nil)) (pg_tup rfl (pgs_cons (pg_name (i := 2) sc__law_lines.nd rfl (Or.inl rfl)) (pgs_cons (pg_tup rfl (pgs_cons (pg_name (i := 3) sc__law_lines.nd rfl (Or.inl rfl)) (pgs_cons (pg_name (i := 4) sc__law_lines.nd rfl (Or.inr rfl)) pgs_nil))) pgs_nil))) (pss_one (ps_expr (pe_bm PySem.F.plainAttrs_list PySem.F.slot_list_extend PySem.F.type_list_extend mt_extend (pv 1) (pa_cons (pe_lc (own := [("_law_second", 5), ("_law_other", 6)]) (g := (gTup K 2 (gCons (gName 5) (gCons (gName 6) gNil)))) (tt := tYes) rfl sc__law_lines.nd (pi_list (pe_slice sl_list (pv 0) (po_some (pe_op op_add (pv 2) pe_int)) po_none)) (blkOk_by (own := [("_law_second", 5), ("_law_other", 6)]) (N := ["_law_marks_here", "_law_found", "_law_at", "_law_name", "_law_one", "_law_second", "_law_other"]) (sc := defScope s__law_lines) (by decide +kernel)) (fun _ _ _ _ _ => (pg_tup rfl (pgs_cons (pg_name (i := 5) sc__law_lines.nd rfl (Or.inl rfl) (hf := Or.inr rfl)) (pgs_cons (pg_name (i := 6) sc__law_lines.nd rfl (Or.inl rfl) (hf := Or.inr rfl)) pgs_nil)))) (fun _ _ _ _ _ => pts_nil) (fun _ _ _ _ _ => (pe_tup (pa_cons (pv 4) (pa_cons (pv 6) pa_nil))))) pa_nil)))))
      (pss_one (ps_ret (pv 1))))), ?body⟩)
  case len => obtain ⟨l, us, ms, rfl, _⟩ := h; rfl
  case body =>
    obtain ⟨l, us, ms, rfl, hl, hm, hz, hy, q⟩ := h
    have hsz := sizeLine_eq
    refine ⟨(by show 0 ≤ sizeLine; decide), fun F nF _ => ⟨_, rfl, l, us, rfl, SqL.of (same_new nF _ _ hl), ?_⟩⟩
    have SF := same_new (o := .lst []) nF
    refine for_it walk_enum (fun i σ H' => Same H H' ∧ (∃ s2 s3 s4, σ = [some (.ref l), some (.ref F), s2, s3, s4, none, none]) ∧ ∃ ws, H' F = some (.lst ws) ∧ ws.length ≤ 3 * i ∧ (1 ≤ i → 1 ≤ ws.length) ∧ ∀ u ∈ ws, ∃ a b c d, LineAt H' u a b c d ∧ Nr (a, b) ∧ Nr (c, d)) ?start (fun i σ H' _ h => h.1.seq (SqL.of hl)) ?turn ?fin
    case start => exact ⟨SF, ⟨_, _, _, rfl⟩, [], upd_same, Nat.le_refl _, fun h => by omega, fun u h => nomatch h⟩
    case turn =>
      rintro i x σ H2 H3 hi ⟨S2, ⟨s2, s3, s4, rfl⟩, ws, hF, lw, lw1, hw⟩ ⟨T1, y0, y, rfl, nT, rfl, ex, ey⟩
      cases ex
      obtain ⟨A1, hA, ⟨t, z, u, rfl, e1, e2⟩, hn⟩ := paired_at hm ey
      have S3 := S2.trans (same_new (o := .tup [.int (i : Nat), .ref t]) nT)
      refine ⟨T1, _, rfl, SqT.of upd_same, rfl, _, _, rfl, _, _, rfl, t, _, rfl, SqT.of (S3 _ _ e1), rfl, _, _, rfl, _, _, rfl, rfl, rfl, ?_⟩
      have Fne : F ≠ T1 := fun z => by rw [← z, hF] at nT; cases nT
      have hF3 : upd H2 T1 (.tup [.int (i : Nat), .ref t]) F = some (.lst ws) := by rw [upd_ne Fne]; exact hF
      refine ⟨_, rfl, .inl ⟨rfl, _, SqL.of hF3⟩, _, rfl, _, rfl, _, _, rfl, rfl, _, rfl, l, us, rfl, SqL.of (S3 _ _ hl), fun c nc => ⟨c, rfl, ⟨_, SqL.of upd_same⟩, fun D nD => ?_⟩⟩
      rw [show ((i : Nat) : Int) + 1 = ((i + 1 : Nat) : Int) from rfl, cutV_suf] at nD ⊢
      have Sc := same_new (o := .lst (us.drop (i + 1))) nc
      refine lc_relW walk_list (fun j y H' => ∃ a b c d, LineAt H' y a b c d ∧ Nr (a, b) ∧ Nr (c, d)) ?hR nD (fun H' S => S.seq (SqL.of upd_same)) (by rw [List.length_drop]; omega) ?he ?hd
      case hR =>
        rintro j y H5 H6 nl ⟨a, b, c, d, ⟨t', q', r', rfl, f1, f2, f3⟩, nn⟩
        exact ⟨a, b, c, d, ⟨t', q', r', rfl, nl _ _ f1 (fun zs z => nomatch z), nl _ _ f2 (fun zs z => nomatch z), nl _ _ f3 (fun zs z => nomatch z)⟩, nn⟩
      case he =>
        rintro j x H5 H6 Q' N hj S5 ⟨rfl, hx⟩ qy
        rw [List.getElem?_drop] at hx
        obtain ⟨B1, hB, ⟨t', z', u', rfl, f1, f2⟩, hn'⟩ := paired_at hm hx
        have S6 := (S3.trans Sc).trans S5
        refine ⟨t', _, rfl, SqT.of (S6 _ _ f1), rfl, _, _, rfl, _, _, rfl, rfl, rfl, yesI ⟨_, rfl, _, rfl, (by show 2 ≤ sizeLine; decide), fun o no => ?_⟩⟩
        exact qy _ _ (same_new no) ⟨A1.1, A1.2, B1.1, B1.2, ⟨o, u, u', rfl, upd_same, same_new no _ _ (S6 _ _ e2), same_new no _ _ (S6 _ _ f2)⟩, hn, hn'⟩
      case hd =>
        intro ys H5 S5 hD hly hys
        rw [List.length_drop] at hly
        have hF5 := S5 _ _ (Sc _ _ hF3)
        have hi3 : i < us.length := hi
        refine ⟨F, D, ws, ys, rfl, rfl, hF5, hD, by omega, (fun b o e => ?_), ⟨_, _, _, rfl⟩, ws ++ ys, upd_same, by rw [List.length_append]; omega, fun _ => ?_, fun u hu => ?_⟩
        · rw [upd_ne (ne_of_none e nF)]
          exact S5 _ _ (Sc _ _ (S3 _ _ e))
        · rw [List.length_append]
          rcases Nat.lt_or_ge i 1 with h | h
          · omega
          · have := lw1 h
            omega
        · have nl := noL_upd (ys := ws ++ ys) hF5
          rcases List.mem_append.mp hu with h | h
          · obtain ⟨a, b, c, d, h1, h2⟩ := hw u h
            obtain ⟨t', q', r', rfl, f1, f2, f3⟩ := ((h1.same (same_new nT)).same Sc).same S5
            exact ⟨a, b, c, d, ⟨t', q', r', rfl, nl _ _ f1 (fun zs z => nomatch z), nl _ _ f2 (fun zs z => nomatch z), nl _ _ f3 (fun zs z => nomatch z)⟩, h2⟩
          · obtain ⟨j, hj⟩ := List.mem_iff_getElem?.mp h
            obtain ⟨a, b, c, d, ⟨t', q', r', rfl, f1, f2, f3⟩, nn⟩ := hys j u hj
            exact ⟨a, b, c, d, ⟨t', q', r', rfl, nl _ _ f1 (fun zs z => nomatch z), nl _ _ f2 (fun zs z => nomatch z), nl _ _ f3 (fun zs z => nomatch z)⟩, nn⟩
    case fin =>
      rintro σ H2 ⟨S2, ⟨s2, s3, s4, rfl⟩, ws, hF, lw, lw1, hw⟩
      exact ⟨_, rfl, q F ws H2 nF S2 hF (lw1 (by omega)) (by omega) hw⟩
end
end My

namespace My
open PySem PySem.Spec PyProof.Rows L2 G
abbrev s__law_marks : Stmt := topS 49
theorem sc__law_marks : FnScope ["_law_pot_here", "_law_most", "_law_names", "_law_far", "_law_found", "_law_turn", "_law_dot"] ["_law_pot_here", "_law_most"] (defScope s__law_marks) := ⟨rfl, rfl, rfl, by decide +kernel, rfl, by decide +kernel, by decide +kernel⟩

theorem MkAt.go {p : Addr} {m k : Nat} {H H' : Hp} {v : V} {x y : Int} (pot : PotAt H p m) (g : Go p k H H') (h : MkAt H v x y) : MkAt H' v x y := let ⟨t, z, q, e, a, b⟩ := h; ⟨t, z, q, e, g.at a (pot.tup a), g.at b (pot.tup b)⟩
theorem Mks.go {p : Addr} {m k : Nat} {H H' : Hp} {vs : List V} {ms : List (Int × Int)} (pot : PotAt H p m) (g : Go p k H H') (h : Mks H vs ms) : Mks H' vs ms := Paired.mapP h fun _ _ e => ⟨e.1.go pot g, e.2⟩
theorem MkAt.nol {H H' : Hp} {v : V} {x y : Int} (nl : NoL H H') (h : MkAt H v x y) : MkAt H' v x y := let ⟨t, z, q, e, a, b⟩ := h; ⟨t, z, q, e, nl _ _ a (fun _ z => nomatch z), nl _ _ b (fun _ z => nomatch z)⟩
theorem Mks.nol {H H' : Hp} {vs : List V} {ms : List (Int × Int)} (nl : NoL H H') (h : Mks H vs ms) : Mks H' vs ms := Paired.mapP h fun _ _ e => ⟨e.1.nol nl, e.2⟩
theorem Pt.go {p : Addr} {m k : Nat} {H H' : Hp} {v : V} {ns : List Int} (pot : PotAt H p m) (g : Go p k H H') (h : Pt H v ns) : Pt H' v ns := let ⟨t, e, x⟩ := h; ⟨t, e, g.at x (pot.tup x)⟩
theorem LineAt.go {p : Addr} {m k : Nat} {H H' : Hp} {v : V} {a b c d : Int} (pot : PotAt H p m) (g : Go p k H H') (h : LineAt H v a b c d) : LineAt H' v a b c d := let ⟨t, q, r, e, x, y, z⟩ := h; ⟨t, q, r, e, g.at x (pot.tup x), g.at y (pot.tup y), g.at z (pot.tup z)⟩
theorem Go.none {p D : Addr} {m n : Nat} {H H' : Hp} (g : Go p n H H') (pot : PotAt H p m) (h : H' D = none) : H D = none := by
  cases e : H D with
  | none => rfl
  | some o =>
    have hD : D ≠ p := fun z => g.pot.has (by rw [← z]; exact h)
    rw [g.at e hD] at h
    cases h
/-- marks under way: what has been found lies in F -/
structure Ms (p F N : Addr) (nu : List V) (n : Nat) (H H' : Hp) (ws : List V) (ms : List (Int × Int)) : Prop where
  go : Go p n H H'
  nm : H' N = some (.lst nu)
  fd : H' F = some (.lst ws)
  mks : Mks H' ws ms
  le : ws.length ≤ 3
  nd : ms.Nodup
theorem noL_trans {H H1 H2 : Hp} (a : NoL H H1) (b : NoL H1 H2) : NoL H H2 := fun c o e n => b c o (a c o e n) n
section
variable {p F N : Addr} {nu ws : List V} {m n k : Nat} {H H1 H2 : Hp} {ms : List (Int × Int)}
theorem Ms.step (x : Ms p F N nu n H H1 ws ms) (hF : F ≠ p) (hN : N ≠ p) (g : Go p k H1 H2) : Ms p F N nu k H H2 ws ms := ⟨x.go.trans g, g.at x.nm hN, g.at x.fd hF, x.mks.go x.go.pot g, x.le, x.nd⟩
theorem Ms.same (x : Ms p F N nu n H H1 ws ms) (S : Same H1 H2) : Ms p F N nu n H H2 ws ms := ⟨x.go.fwd S, S _ _ x.nm, S _ _ x.fd, x.mks.same S, x.le, x.nd⟩
theorem Ms.add {v : V} {d : Int × Int} {z : Str} {o : Addr} (x : Ms p F N nu n H H1 ws ms) (hF : F ≠ p) (hN : N ≠ F) (nF : H F = none) (hv : Pt H1 v [d.1, d.2]) (nr : Nr d) (fr : d ∉ ms) (hl : ws.length < 3) (no : H1 o = none) :
    Ms p F N nu n H (upd (upd H1 o (.tup [.str z, v])) F (.lst (ws ++ [.ref o]))) (ws ++ [.ref o]) (ms ++ [d]) := by
  obtain ⟨q, rfl, hq⟩ := hv
  have S := same_new (o := .tup [.str z, .ref q]) no
  have y := x.same S
  have nl := noL_upd (ys := ws ++ [.ref o]) y.fd
  have t : MkAt (upd H1 o (.tup [.str z, .ref q])) (.ref o) d.1 d.2 := ⟨o, z, q, rfl, upd_same, S _ _ hq⟩
  refine ⟨y.go.over nF hF, (by rw [upd_ne hN]; exact y.nm), upd_same, PySem.Paired.snoc (Mks.nol nl y.mks) ⟨t.nol nl, nr⟩, by rw [List.length_append]; simp; omega, ?_⟩
  rw [List.nodup_append]
  refine ⟨x.nd, by simp, fun a ha b hb => ?_⟩
  rw [List.mem_singleton.mp hb]
  exact fun e => fr (e ▸ ha)
end
theorem fits_pre {ms : List (Int × Int)} {d x : Int × Int} (h : Fits (ms ++ [d]) x) : Fits ms x := by
  refine ⟨fun i j a b h1 h2 h3 => h.1 i j a b h1 ?_ ?_, fun z => h.2 (List.mem_append_left _ z)⟩
  · rw [List.getElem?_append_left (List.getElem?_eq_some_iff.mp h2).1]
    exact h2
  · rw [List.getElem?_append_left (List.getElem?_eq_some_iff.mp h3).1]
    exact h3
/-- not all of three dots that lie on no line are refused -/
theorem three_of {ms : List (Int × Int)} (nd : ms.Nodup) (h0 : ¬ Fits ms (0, 0)) (h1 : ¬ Fits ms (4, 0)) (h2 : ¬ Fits ms (0, 4)) : 3 ≤ ms.length := by
  rcases ms with _ | ⟨P, _ | ⟨Q, _ | ⟨R, ms⟩⟩⟩
  · exact absurd ⟨fun i j a b _ h => by simp at h, fun h => nomatch h⟩ h0
  · have one : ∀ x : Int × Int, ¬ Fits [P] x → x = P := fun x h => by
      apply Classical.byContradiction
      intro c
      refine h ⟨fun i j a b h1 h2 h3 => ?_, fun z => c (List.mem_singleton.mp z)⟩
      have := (List.getElem?_eq_some_iff.mp h2).1
      simp at this
      omega
    have e0 := one _ h0
    have e1 := one _ h1
    rw [← e0] at e1
    cases e1
  · have two : ∀ x : Int × Int, ¬ Fits [P, Q] x → hgt Q.1 Q.2 P.1 P.2 x.1 x.2 1 = 0 := fun x h => by
      apply Classical.byContradiction
      intro c
      refine h ⟨fun i j a b h1 h2 h3 => ?_, fun z => ?_⟩
      · have hi := (List.getElem?_eq_some_iff.mp h2).1
        simp at hi
        have i1 : i = 1 := by omega
        have j0 : j = 0 := by omega
        subst i1 j0
        cases h2
        cases h3
        exact c
      · simp at z
        rcases z with z | z
        · subst z
          apply c
          unfold hgt
          grind
        · subst z
          apply c
          unfold hgt
          grind
    have e0 := two _ h0
    have e1 := two _ h1
    have e2 := two _ h2
    unfold hgt at e0 e1 e2
    simp only at e0 e1 e2
    have f1 : P.2 = Q.2 := by grind
    have f2 : P.1 = Q.1 := by grind
    have : P = Q := Prod.ext f2 f1
    simp [this] at nd
  · simp
section
variable {P : Program} {w : World} {K : PySem.W.Frag} {mg : Str → Option Value} {base : Heap} {a : Ad}
theorem ok__law_marks {fd : FuncData} (F : Fun K "_law_marks" "_law_marks" s__law_marks a._law_marks fd) (T : Txt K mg a)
    {fd__law_fits : FuncData} (G__law_fits : Fn P w K mg base CX0 2 a._law_fits fd__law_fits ["_law_found", "_law_dot"] spFits) (b__law_fits : Binds K fd__law_fits ["_law_found", "_law_dot"] [])
    {fd__law_take : FuncData} (G__law_take : Fn P w K mg base CX0 1 a._law_take fd__law_take ["_law_pot_here", "_law_upto"] spTake) (b__law_take : Binds K fd__law_take ["_law_pot_here", "_law_upto"] [])
    {fd__law_of : FuncData} (G__law_of : Fn P w K mg base CX0 2 a._law_of fd__law_of ["_law_pot_here", "_law_some_here"] spOf) (b__law_of : Binds K fd__law_of ["_law_pot_here", "_law_some_here"] [])
    {fd__law_some : FuncData} (G__law_some : Fn P w K mg base CX0 2 a._law_some fd__law_some ["_law_pot_here", "_law_pool", "_law_many"] spSome) (b__law_some : Binds K fd__law_some ["_law_pot_here", "_law_pool", "_law_many"] []) :
    Fn P w K mg base CX0 3 a._law_marks fd ["_law_pot_here", "_law_most"] spMarks := by
  refine ok F sc__law_marks (fun vs H Q E h => ?len) (fun cdv A outer s H vs Q E hq hr h => ⟨_,
      (pss_cons (ps_set (i := 2) sc__law_marks.nd rfl (Or.inl rfl) (pe_fn G__law_some hq (hr.mono (by omega)) (by rfl) T.g__law_some T.k__law_some b__law_some .nil pass0 (pa_cons (pv 0) (pa_cons (pe_lstS (pa_cons pe_str (pa_cons pe_str (pa_cons pe_str (pa_cons pe_str (pa_cons pe_str (pa_cons pe_str (pa_cons pe_str (pa_cons pe_str (pa_cons pe_str (pa_cons pe_str pa_nil))))))))))) (pa_cons pe_int pa_nil)))))
      (pss_cons (ps_par (i := 3) (j := 4) (by rfl) sc__law_marks.nd rfl rfl (by decide) rfl rfl (pa_cons (pe_fn G__law_of hq (hr.mono (by omega)) (by rfl) T.g__law_of T.k__law_of b__law_of .nil pass0 (pa_cons (pv 0) (pa_cons (pe_lstS (pa_cons pe_int (pa_cons pe_int (pa_cons pe_int (pa_cons pe_int (pa_cons pe_int pa_nil)))))) pa_nil))) (pa_cons (pe_lstS pa_nil) pa_nil)) (by rfl))
      (pss_cons (ps_for PassesOwn.never rfl (pi_range1 (by rfl) T.n_range (pa_cons pe_int pa_nil)) (pg_name (i := 5) sc__law_marks.nd rfl (Or.inl rfl)) (pss_cons (ps_set (i := 6) sc__law_marks.nd rfl (Or.inl rfl) (pe_tup (pa_cons (pe_op op_sub (pe_fn G__law_take hq (hr.mono (by omega)) (by rfl) T.g__law_take T.k__law_take b__law_take .nil pass0 (pa_cons (pv 0) (pa_cons (pe_op op_add (pe_op op_mulW pe_int (pv 3)) pe_int) pa_nil))) (pv 3)) (pa_cons (pe_op op_sub (pe_fn G__law_take hq (hr.mono (by omega)) (by rfl) T.g__law_take T.k__law_take b__law_take .nil pass0 (pa_cons (pv 0) (pa_cons (pe_op op_add (pe_op op_mulW pe_int (pv 3)) pe_int) pa_nil))) (pv 3)) pa_nil))))
      (pss_one (ps_if (PW.pt (pw_and (pt_val (pe_fn G__law_fits hq (hr.mono (by omega)) (by rfl) T.g__law_fits T.k__law_fits b__law_fits .nil pass0 (pa_cons (pv 4) (pa_cons (pv 6) pa_nil)))) (pw_and1 (pt_cmpR op_lt (pe_callB call_len_seq (by rfl) T.n_len (by decide +kernel) (pa_cons (pv 4) pa_nil)) (pv 1) (nomark _))))) (pss_one (ps_expr (pe_bm PySem.F.plainAttrs_list PySem.F.slot_list_append PySem.F.type_list_append mt_append (pv 4) (pa_cons (pe_tup (pa_cons (pe_ix ix_list (pv 2) (pe_callB call_len_seq (by rfl) T.n_len (by decide +kernel) (pa_cons (pv 4) pa_nil)) (fun _ _ => rfl)) (pa_cons (pv 6) pa_nil))) pa_nil)))) pss_nil))))
      (pss_cons (ps_for PassesOwn.never rfl (pi_tup (pe_tup (pa_cons (pe_tup (pa_cons pe_int (pa_cons pe_int pa_nil))) (pa_cons (pe_tup (pa_cons pe_int (pa_cons pe_int pa_nil))) (pa_cons (pe_tup (pa_cons pe_int (pa_cons pe_int pa_nil))) (pa_cons (pe_tup (pa_cons pe_int (pa_cons pe_int pa_nil))) (pa_cons (pe_tup (pa_cons (pe_un un_neg pe_int) (pa_cons pe_int pa_nil))) pa_nil))))))) (pg_name (i := 6) sc__law_marks.nd rfl (Or.inl rfl)) (pss_one (ps_if (PW.pt (pw_and (pt_cmpR op_lt (pe_callB call_len_seq (by rfl) T.n_len (by decide +kernel) (pa_cons (pv 4) pa_nil)) pe_int (nomark _)) (pw_and1 (pt_val (pe_fn G__law_fits hq (hr.mono (by omega)) (by rfl) T.g__law_fits T.k__law_fits b__law_fits .nil pass0 (pa_cons (pv 4) (pa_cons (pv 6) pa_nil))))))) (pss_one (ps_expr (pe_bm PySem.F.plainAttrs_list PySem.F.slot_list_append PySem.F.type_list_append mt_append (pv 4) (pa_cons (pe_tup (pa_cons (pe_ix ix_list (pv 2) (pe_callB call_len_seq (by rfl) T.n_len (by decide +kernel) (pa_cons (pv 4) pa_nil)) (fun _ _ => rfl)) (pa_cons (pv 6) pa_nil))) pa_nil)))) pss_nil)))
      (pss_one (ps_ret (pv 4))))))), ?body⟩)
  case len => obtain ⟨p, n, rfl, _⟩ := h; rfl
  case body =>
    obtain ⟨p, n, rfl, pot, hn, q⟩ := h
    have hsz := sizeLine_eq
    refine ⟨_, rfl, (by show 10 ≤ sizeLine; decide), fun l0 nl0 _ => ?_⟩
    refine ⟨p, l0, 7, n, _, rfl, pot.new nl0, pot.same (same_new nl0), by omega, upd_same, by decide, by decide, fun N nu H1 lN subN hN nN g1 => ?_⟩
    have nuS : ∀ u ∈ nu, ∃ z, u = .str z := fun u hu => by
      have := subN u hu
      simp only [List.mem_cons, List.not_mem_nil, or_false] at this
      rcases this with h | h | h | h | h | h | h | h | h | h <;> exact ⟨_, h⟩
    refine ⟨_, rfl, (by show 5 ≤ sizeLine; decide), fun l1 nl1 _ => ?_⟩
    refine ⟨p, l1, n + 7, _, rfl, g1.pot.new nl1, g1.pot.same (same_new nl1), by omega, upd_same, (fun z => nomatch z), by decide, fun x H2 hx g2 => ?_⟩
    obtain ⟨f, rfl, f1, f2⟩ : ∃ f : Int, x = .int f ∧ 1 ≤ f ∧ f ≤ 999 := by
      simp only [List.mem_cons, List.not_mem_nil, or_false] at hx
      rcases hx with h | h | h | h | h <;> exact ⟨_, h, by decide, by decide⟩
    refine ⟨(by show 0 ≤ sizeLine; decide), fun F nF _ => ⟨_, _, rfl, ?_⟩⟩
    have G1 : Go p (n + 7) H H1 := Go.of (same_new nl0) g1
    have G2 : Go p (n + 8) H H2 := G1.trans (Go.of (same_new nl1) g2)
    have hF : F ≠ p := G2.pot.new nF
    have nF0 : H F = none := G2.none pot nF
    have hN2 : H2 N = some (.lst nu) := g2.at (same_new nl1 _ _ hN) nN
    have hNF : N ≠ F := fun z => by rw [z, nF] at hN2; cases hN2
    have M0 : Ms p F N nu (n + 8) H (upd H2 F (.lst [])) [] [] := ⟨G2.fwd (same_new nF), same_new nF _ _ hN2, upd_same, .nil, by simp, List.nodup_nil⟩
    refine ⟨60, rfl, by omega, by omega, for_it walk_range (fun i σ H' => (∃ s5 s6, σ = [some (.ref p), some (.int 3), some (.ref N), some (.int f), some (.ref F), s5, s6]) ∧ ∃ ws ms, Ms p F N nu (n + 8 + 2 * i) H H' ws ms) ?start (fun _ _ _ _ _ => trivial) ?turn ?fin⟩
    case start => exact ⟨⟨_, _, rfl⟩, [], [], M0⟩
    case turn =>
      rintro i x σ H3 H4 hi ⟨⟨s5, s6, rfl⟩, ws, ms, M⟩ ⟨rfl, rfl⟩
      have hi : i < 60 := hi
      have cf : CMulW 2 f := cw (show (2 : Int).natAbs < 2 ^ 8000 from Ib.mono (m := 10) (show (2 : Int).natAbs < 2 ^ 10 by decide) (by omega)) (show f.natAbs < 2 ^ 8000 from Ib.mono (m := 10) (show f.natAbs < 2 ^ 10 by omega) (by omega))
      refine ⟨_, rfl, _, rfl, _, _, rfl, rfl, cf, _, _, rfl, rfl, p, _, _, rfl, M.go.pot, by omega, (by show (1 : Int) ≤ 2 * f + 1; omega), (by show 2 * f + 1 ≤ (10 : Int) ^ 8; omega), fun d1 H5 a1 b1 g1 => ?_⟩
      refine ⟨_, rfl, _, _, rfl, rfl, _, rfl, _, rfl, _, _, rfl, rfl, cf, _, _, rfl, rfl, p, _, _, rfl, g1.pot, by omega, (by show (1 : Int) ≤ 2 * f + 1; omega), (by show 2 * f + 1 ≤ (10 : Int) ^ 8; omega), fun d2 H6 a2 b2 g2 => ?_⟩
      have b1 : d1 < 2 * f + 1 := b1
      have b2 : d2 < 2 * f + 1 := b2
      refine ⟨_, rfl, _, _, rfl, rfl, (by show 2 ≤ sizeLine; decide), fun o no => ?_⟩
      have M5 := (M.step hF nN g1).step hF nN g2
      have M6 := M5.same (same_new (o := .tup [.int (d1 - f), .int (d2 - f)]) no)
      have hv : Pt (upd H6 o (.tup [.int (d1 - f), .int (d2 - f)])) (.ref o) [(d1 - f, d2 - f).1, (d1 - f, d2 - f).2] := ⟨o, rfl, upd_same⟩
      have nr : Nr (d1 - f, d2 - f) := ⟨⟨by show -999 ≤ d1 - f; omega, by show d1 - f ≤ 999; omega⟩, ⟨by show -999 ≤ d2 - f; omega, by show d2 - f ≤ 999; omega⟩⟩
      refine ⟨_, rfl, _, rfl, F, .ref o, ws, ms, (d1 - f, d2 - f), rfl, M6.fd, M6.mks, (by have := M6.le; omega), hv, nr, fun b H7 hb S7 => ⟨b, rfl, ?_⟩⟩
      have M7 := M6.same S7
      have e : n + 8 + 2 * i + 1 + 1 = n + 8 + 2 * (i + 1) := by omega
      refine ite2 (fun cb => ?_) (fun _ => iteF ⟨⟨_, _, rfl⟩, ws, ms, e ▸ M7⟩)
      subst cb
      refine ⟨_, rfl, F, ws, rfl, .inl (SqL.of M7.fd), _, rfl, _, _, rfl, rfl, _, rfl, ite2 (fun cl => ?_) (fun _ => ⟨⟨_, _, rfl⟩, ws, ms, e ▸ M7⟩)⟩
      have cl : ws.length < 3 := by
        have : ((ws.length : Int) < 3) := of_decide_eq_true cl
        omega
      have hu : ws.length < nu.length := by omega
      obtain ⟨z, hz⟩ := nuS _ (List.getElem_mem hu)
      refine ⟨_, rfl, .inl ⟨rfl, _, SqL.of M7.fd⟩, _, rfl, _, rfl, F, ws, rfl, .inl (SqL.of M7.fd), N, nu, _, _, rfl, rfl, SqL.of M7.nm, atI_nat (List.getElem?_eq_getElem hu), _, rfl, (by show 2 ≤ sizeLine; decide), fun o2 no2 => ⟨F, ws, _, rfl, rfl, same_new no2 _ _ M7.fd, by omega, ⟨_, _, rfl⟩, ws ++ [.ref o2], ms ++ [(d1 - f, d2 - f)], ?_⟩⟩
      rw [hz, ← e]
      exact M7.add hF hNF nF0 (hv.same S7) nr (hb.mp rfl).2 cl no2
    case fin =>
      rintro σ H3 ⟨⟨s5, s6, rfl⟩, ws, ms, M⟩
      show tSeq _ _ _ _ _
      refine ⟨(by show 2 ≤ sizeLine; decide), fun o1 n1 => ?_⟩
      refine ⟨(by show 2 ≤ sizeLine; decide), fun o2 n2 => ?_⟩
      refine ⟨(by show 2 ≤ sizeLine; decide), fun o3 n3 => ?_⟩
      refine ⟨(by show 2 ≤ sizeLine; decide), fun o4 n4 => ?_⟩
      refine ⟨_, rfl, (by show 2 ≤ sizeLine; decide), fun o5 n5 => ?_⟩
      refine ⟨(by show 5 ≤ sizeLine; decide), fun o6 n6 => ?_⟩
      have S1 := same_new (o := .tup [.int 0, .int 0]) n1
      have S2 := same_new (o := .tup [.int 4, .int 0]) n2
      have S3 := same_new (o := .tup [.int 0, .int 4]) n3
      have S4 := same_new (o := .tup [.int 7, .int 9]) n4
      have S5 := same_new (o := .tup [.int (-8), .int 3]) n5
      have S6 := same_new (o := .tup [.ref o1, .ref o2, .ref o3, .ref o4, .ref o5]) n6
      have M1 := (((((M.same S1).same S2).same S3).same S4).same S5).same S6
      obtain ⟨B, hB⟩ : ∃ B, B = upd (upd (upd (upd (upd (upd H3 o1 (.tup [.int 0, .int 0])) o2 (.tup [.int 4, .int 0])) o3 (.tup [.int 0, .int 4])) o4 (.tup [.int 7, .int 9])) o5 (.tup [.int (-8), .int 3])) o6 (.tup [.ref o1, .ref o2, .ref o3, .ref o4, .ref o5]) := ⟨_, rfl⟩
      have t1 : B o1 = some (.tup [.int 0, .int 0]) := hB ▸ S6 _ _ (S5 _ _ (S4 _ _ (S3 _ _ (S2 _ _ upd_same))))
      have t2 : B o2 = some (.tup [.int 4, .int 0]) := hB ▸ S6 _ _ (S5 _ _ (S4 _ _ (S3 _ _ upd_same)))
      have t3 : B o3 = some (.tup [.int 0, .int 4]) := hB ▸ S6 _ _ (S5 _ _ (S4 _ _ upd_same))
      have t4 : B o4 = some (.tup [.int 7, .int 9]) := hB ▸ S6 _ _ (S5 _ _ upd_same)
      have t5 : B o5 = some (.tup [.int (-8), .int 3]) := hB ▸ S6 _ _ upd_same
      have t6 : B o6 = some (.tup [.ref o1, .ref o2, .ref o3, .ref o4, .ref o5]) := hB ▸ upd_same
      rw [← hB] at M1
      refine ⟨o6, rfl, ⟨_, SqT.of upd_same⟩, ?_⟩
      show ∃ W : Nat → Nat → L2.St → Hp → Prop, (∃ m, W 0 m _ (upd (upd (upd (upd (upd (upd H3 o1 (.tup [.int 0, .int 0])) o2 (.tup [.int 4, .int 0])) o3 (.tup [.int 0, .int 4])) o4 (.tup [.int 7, .int 9])) o5 (.tup [.int (-8), .int 3])) o6 (.tup [.ref o1, .ref o2, .ref o3, .ref o4, .ref o5]))) ∧ _
      rw [← hB]
      have hP : Paired (fun v x => Pt B v [x.1, x.2] ∧ Nr x) [V.ref o1, .ref o2, .ref o3, .ref o4, .ref o5] [((0 : Int), (0 : Int)), (4, 0), (0, 4), (7, 9), (-8, 3)] :=
        .cons ⟨⟨o1, rfl, t1⟩, by unfold Nr; decide⟩ (.cons ⟨⟨o2, rfl, t2⟩, by unfold Nr; decide⟩ (.cons ⟨⟨o3, rfl, t3⟩, by unfold Nr; decide⟩ (.cons ⟨⟨o4, rfl, t4⟩, by unfold Nr; decide⟩ (.cons ⟨⟨o5, rfl, t5⟩, by unfold Nr; decide⟩ .nil))))
      have e128 : n + 8 + 2 * Int.toNat 60 = n + 128 := by show n + 8 + 2 * 60 = n + 128; omega
      rw [e128] at M1
      refine for_it walk_tup (fun i σ H' => (∃ s5 s6, σ = [some (.ref p), some (.int 3), some (.ref N), some (.int f), some (.ref F), s5, s6]) ∧ NoL B H' ∧ ∃ ws ms, Ms p F N nu (n + 128) H H' ws ms ∧ ∀ (j : Nat) (X : Int × Int), j < i → [((0 : Int), (0 : Int)), (4, 0), (0, 4), (7, 9), (-8, 3)][j]? = some X → ws.length < 3 → ¬ Fits ms X) ?start2 (fun i σ H' _ h => SqT.of (h.2.1 _ _ t6 (fun _ z => nomatch z))) ?turn2 ?fin2
      case start2 => exact ⟨⟨_, _, rfl⟩, fun _ _ e _ => e, ws, ms, M1, fun j X h => by omega⟩
      case turn2 =>
        rintro i x σ H4 H5 hi ⟨⟨s5, s6, rfl⟩, nl, ws, ms, M, hh⟩ ⟨rfl, hx⟩
        obtain ⟨X, hX, hvB, nr⟩ := paired_at hP hx
        have hv : Pt H5 x [X.1, X.2] := by
          obtain ⟨t, rfl, e⟩ := hvB
          exact ⟨t, rfl, nl _ _ e (fun _ z => nomatch z)⟩
        refine ⟨_, rfl, F, ws, rfl, .inl (SqL.of M.fd), _, _, rfl, rfl, _, rfl, ite2 (fun cl => ?_) (fun cl => iteF ?_)⟩
        · have cl : ws.length < 3 := by
            have : ((ws.length : Int) < 3) := of_decide_eq_true cl
            omega
          refine ⟨_, rfl, _, rfl, F, x, ws, ms, X, rfl, M.fd, M.mks, by omega, hv, nr, fun b H7 hb S7 => ⟨b, rfl, ?_⟩⟩
          have M7 := M.same S7
          refine ite2 (fun cb => ?_) (fun cb => ?_)
          · subst cb
            have hu : ws.length < nu.length := by omega
            obtain ⟨z, hz⟩ := nuS _ (List.getElem_mem hu)
            refine ⟨_, rfl, .inl ⟨rfl, _, SqL.of M7.fd⟩, _, rfl, _, rfl, F, ws, rfl, .inl (SqL.of M7.fd), N, nu, _, _, rfl, rfl, SqL.of M7.nm, atI_nat (List.getElem?_eq_getElem hu), _, rfl, (by show 2 ≤ sizeLine; decide), fun o2 no2 => ⟨F, ws, _, rfl, rfl, same_new no2 _ _ M7.fd, by omega, ⟨_, _, rfl⟩, ?_⟩⟩
            have fr := (hb.mp rfl).2
            have A := M7.add (z := z) hF hNF nF0 (hv.same S7) nr fr cl no2
            rw [hz]
            refine ⟨noL_trans (noL_trans nl (NoL.same S7)) (noL_trans (NoL.same (same_new no2)) (noL_upd (same_new no2 _ _ M7.fd))), ws ++ [.ref o2], ms ++ [X], A, fun j Y hj hY hl => ?_⟩
            rcases Nat.lt_or_ge j i with h | h
            · exact fun z => hh j Y h hY cl (fits_pre z)
            · have : j = i := by omega
              subst this
              rw [hX] at hY
              cases hY
              exact fun z => z.2 (by simp)
          · refine ⟨⟨_, _, rfl⟩, noL_trans nl (NoL.same S7), ws, ms, M7, fun j Y hj hY hl => ?_⟩
            rcases Nat.lt_or_ge j i with h | h
            · exact hh j Y h hY cl
            · have : j = i := by omega
              subst this
              rw [hX] at hY
              cases hY
              exact fun z => cb (hb.mpr z)
        · refine ⟨⟨_, _, rfl⟩, nl, ws, ms, M, fun j Y hj hY hl => absurd (decide_eq_true (by omega)) cl⟩
      case fin2 =>
        rintro σ H4 ⟨⟨s5, s6, rfl⟩, nl, ws, ms, M, hh⟩
        have l3 : ws.length = 3 := by
          have h1 := M.le
          rcases Nat.lt_or_ge ws.length 3 with h | h
          · have := three_of M.nd (hh 0 _ (by simp) rfl h) (hh 1 _ (by simp) rfl h) (hh 2 _ (by simp) rfl h)
            have := M.mks.length
            omega
          · omega
        exact ⟨_, rfl, q F ws ms H4 (M.go.mono (by omega)) M.fd hF M.mks l3 M.nd⟩
end
end My

namespace My
open PySem PySem.Spec PyProof.Rows L2 G
abbrev s__law_drawn_spot : Stmt := topS 54
theorem sc__law_drawn_spot : FnScope ["_law_pot_here", "_law_marks_here", "_law_way", "_law_lines_here", "_law_one", "_law_other", "_law_met", "_law_a", "_law_b", "_law_c", "_law_d", "_law_above", "_law_under", "_law_some_here", "_law_lean", "_law_far", "_law_name", "_law_place"] ["_law_pot_here", "_law_marks_here"] (defScope s__law_drawn_spot) := ⟨rfl, rfl, rfl, by decide +kernel, rfl, by decide +kernel, by decide +kernel⟩

section
variable {P : Program} {w : World} {K : PySem.W.Frag} {mg : Str → Option Value} {base : Heap} {a : Ad}
theorem ok__law_drawn_spot {fd : FuncData} (F : Fun K "_law_drawn_spot" "_law_drawn_spot" s__law_drawn_spot a._law_drawn_spot fd) (T : Txt K mg a)
    {fd__law_take : FuncData} (G__law_take : Fn P w K mg base CX0 1 a._law_take fd__law_take ["_law_pot_here", "_law_upto"] spTake) (b__law_take : Binds K fd__law_take ["_law_pot_here", "_law_upto"] [])
    {fd__law_of : FuncData} (G__law_of : Fn P w K mg base CX0 2 a._law_of fd__law_of ["_law_pot_here", "_law_some_here"] spOf) (b__law_of : Binds K fd__law_of ["_law_pot_here", "_law_some_here"] [])
    {fd__law_spot : FuncData} (G__law_spot : Fn P w K mg base CX0 2 a._law_spot fd__law_spot ["_law_x", "_law_y", "_law_d"] spSpot) (b__law_spot : Binds K fd__law_spot ["_law_x", "_law_y", "_law_d"] [])
    {fd__law_some : FuncData} (G__law_some : Fn P w K mg base CX0 2 a._law_some fd__law_some ["_law_pot_here", "_law_pool", "_law_many"] spSome) (b__law_some : Binds K fd__law_some ["_law_pot_here", "_law_pool", "_law_many"] [])
    {fd__law_cross : FuncData} (G__law_cross : Fn P w K mg base CX0 3 a._law_cross fd__law_cross ["_law_one", "_law_other"] spCross) (b__law_cross : Binds K fd__law_cross ["_law_one", "_law_other"] [])
    {fd__law_lines : FuncData} (G__law_lines : Fn P w K mg base CX0 1 a._law_lines fd__law_lines ["_law_marks_here"] spLines) (b__law_lines : Binds K fd__law_lines ["_law_marks_here"] []) :
    Fn P w K mg base CX0 4 a._law_drawn_spot fd ["_law_pot_here", "_law_marks_here"] spDrawn := by
  refine ok F sc__law_drawn_spot (fun vs H Q E h => ?len) (fun cdv A outer s H vs Q E hq hr h => ⟨_,
      (pss_cons (ps_par (i := 2) (j := 3) (by rfl) sc__law_drawn_spot.nd rfl rfl (by decide) rfl rfl (pa_cons (pe_fn G__law_take hq (hr.mono (by omega)) (by rfl) T.g__law_take T.k__law_take b__law_take .nil pass0 (pa_cons (pv 0) (pa_cons pe_int pa_nil))) (pa_cons (pe_fn G__law_lines hq (hr.mono (by omega)) (by rfl) T.g__law_lines T.k__law_lines b__law_lines .nil pass0 (pa_cons (pv 1) pa_nil)) pa_nil)) (by rfl))
      (pss_cons (ps_if (pt_cmpR op_eq (pv 2) pe_int (nomark _)) (pss_one (ps_ret (pe_tup (pa_cons (pe_op op_sub (pe_fn G__law_take hq (hr.mono (by omega)) (by rfl) T.g__law_take T.k__law_take b__law_take .nil pass0 (pa_cons (pv 0) (pa_cons pe_int pa_nil))) pe_int) (pa_cons (pe_op op_sub (pe_fn G__law_take hq (hr.mono (by omega)) (by rfl) T.g__law_take T.k__law_take b__law_take .nil pass0 (pa_cons (pv 0) (pa_cons pe_int pa_nil))) pe_int) (pa_cons (pe_op op_add pe_int (pe_fn G__law_take hq (hr.mono (by omega)) (by rfl) T.g__law_take T.k__law_take b__law_take .nil pass0 (pa_cons (pv 0) (pa_cons pe_int pa_nil)))) pa_nil)))))) pss_nil)
      (pss_cons (ps_if (pt_cmpR op_eq (pv 2) pe_int (nomark _)) (pss_cons (ps_par (i := 4) (j := 5) (by rfl) sc__law_drawn_spot.nd rfl rfl (by decide) rfl rfl (pa_cons (pe_fn G__law_of hq (hr.mono (by omega)) (by rfl) T.g__law_of T.k__law_of b__law_of .nil pass0 (pa_cons (pv 0) (pa_cons (pv 3) pa_nil))) (pa_cons (pe_fn G__law_of hq (hr.mono (by omega)) (by rfl) T.g__law_of T.k__law_of b__law_of .nil pass0 (pa_cons (pv 0) (pa_cons (pv 3) pa_nil))) pa_nil)) (by rfl))
      (pss_cons (ps_set (i := 6) sc__law_drawn_spot.nd rfl (Or.inl rfl) (pe_fn G__law_cross hq (hr.mono (by omega)) (by rfl) T.g__law_cross T.k__law_cross b__law_cross .nil pass0 (pa_cons (pv 4) (pa_cons (pv 5) pa_nil))))
      (pss_one (ps_ret (pe_ifExp (pt_cmpR op_notN (pv 6) pe_non (nomark _)) (pv 6) (pe_tup (pa_cons (pe_ix ix_tup (pe_ix ix_tup (pv 4) pe_int (fun _ _ => rfl)) pe_int (fun _ _ => rfl)) (pa_cons (pe_ix ix_tup (pe_ix ix_tup (pv 4) pe_int (fun _ _ => rfl)) pe_int (fun _ _ => rfl)) (pa_cons pe_int pa_nil))))))))) pss_nil)
      (pss_cons (ps_if (pt_cmpR op_eq (pv 2) pe_int (nomark _)) (pss_cons (ps_asg (pe_fn G__law_of hq (hr.mono (by omega)) (by rfl) T.g__law_of T.k__law_of b__law_of .nil pass0 (pa_cons (pv 0) (pa_cons (pv 3) pa_nil))) (pg_tup rfl (pgs_cons (pg_tup rfl (pgs_cons (pg_name (i := 7) sc__law_drawn_spot.nd rfl (Or.inl rfl)) (pgs_cons (pg_name (i := 8) sc__law_drawn_spot.nd rfl (Or.inl rfl)) pgs_nil))) (pgs_cons (pg_tup rfl (pgs_cons (pg_name (i := 9) sc__law_drawn_spot.nd rfl (Or.inl rfl)) (pgs_cons (pg_name (i := 10) sc__law_drawn_spot.nd rfl (Or.inl rfl)) pgs_nil))) pgs_nil))))
      (pss_cons (ps_par (i := 11) (j := 12) (by rfl) sc__law_drawn_spot.nd rfl rfl (by decide) rfl rfl (pa_cons (pe_op op_sub (pe_fn G__law_take hq (hr.mono (by omega)) (by rfl) T.g__law_take T.k__law_take b__law_take .nil pass0 (pa_cons (pv 0) (pa_cons pe_int pa_nil))) pe_int) (pa_cons (pe_op op_add pe_int (pe_fn G__law_take hq (hr.mono (by omega)) (by rfl) T.g__law_take T.k__law_take b__law_take .nil pass0 (pa_cons (pv 0) (pa_cons pe_int pa_nil)))) pa_nil)) (by rfl))
      (pss_one (ps_ret (pe_fn G__law_spot hq (hr.mono (by omega)) (by rfl) T.g__law_spot T.k__law_spot b__law_spot .nil pass0 (pa_cons (pe_op op_add (pe_op op_mulW (pv 7) (pv 12)) (pe_op op_mulW (pv 11) (pe_op op_sub (pv 9) (pv 7)))) (pa_cons (pe_op op_add (pe_op op_mulW (pv 8) (pv 12)) (pe_op op_mulW (pv 11) (pe_op op_sub (pv 10) (pv 8)))) (pa_cons (pv 12) pa_nil)))))))) pss_nil)
      (pss_cons (ps_if (pt_cmpR op_eq (pv 2) pe_int (nomark _)) (pss_cons (ps_setLc (i := 13) (own := [("_law_name", 16), ("_law_place", 17)]) (g := (gTup K 2 (gCons (gName 16) (gCons (gName 17) gNil)))) (tt := tYes) rfl sc__law_drawn_spot.nd rfl rfl (sw_true rfl rfl rfl (by decide +kernel)) (pi_list (pe_fn G__law_some hq (hr.mono (by omega)) (by rfl) T.g__law_some T.k__law_some b__law_some .nil pass0 (pa_cons (pv 0) (pa_cons (pv 1) (pa_cons pe_int pa_nil))))) (blkOk_by (own := [("_law_name", 16), ("_law_place", 17)]) (N := ["_law_pot_here", "_law_marks_here", "_law_way", "_law_lines_here", "_law_one", "_law_other", "_law_met", "_law_a", "_law_b", "_law_c", "_law_d", "_law_above", "_law_under", "_law_some_here", "_law_lean", "_law_far", "_law_name", "_law_place"]) (sc := defScope s__law_drawn_spot) (by decide +kernel)) (fun _ _ _ _ _ => (pg_tup rfl (pgs_cons (pg_name (i := 16) sc__law_drawn_spot.nd rfl (Or.inl rfl) (hf := Or.inr rfl)) (pgs_cons (pg_name (i := 17) sc__law_drawn_spot.nd rfl (Or.inl rfl) (hf := Or.inr rfl)) pgs_nil)))) (fun _ _ _ _ _ => pts_nil) (fun _ _ _ _ _ => (pv 17)))
      (pss_one (ps_ret (pe_fn G__law_spot hq (hr.mono (by omega)) (by rfl) T.g__law_spot T.k__law_spot b__law_spot .nil pass0 (pa_cons (pe_callB (cr_sum rfl) (by rfl) T.n_sum (by decide +kernel) (pa_cons (pe_lc (own := [("_law_one", 4)]) (g := gName 4) (tt := tYes) rfl sc__law_drawn_spot.nd (pi_list (pv 13)) (blkOk_by (own := [("_law_one", 4)]) (N := ["_law_pot_here", "_law_marks_here", "_law_way", "_law_lines_here", "_law_one", "_law_other", "_law_met", "_law_a", "_law_b", "_law_c", "_law_d", "_law_above", "_law_under", "_law_some_here", "_law_lean", "_law_far", "_law_name", "_law_place"]) (sc := defScope s__law_drawn_spot) (by decide +kernel)) (fun _ _ _ _ _ => (pg_name (i := 4) sc__law_drawn_spot.nd rfl (Or.inl rfl))) (fun _ _ _ _ _ => pts_nil) (fun _ _ _ _ _ => (pe_ix (show IxR _ (rIxT K) from ix_tup) (pv 4) pe_int (fun _ _ => rfl)))) pa_nil)) (pa_cons (pe_callB (cr_sum rfl) (by rfl) T.n_sum (by decide +kernel) (pa_cons (pe_lc (own := [("_law_one", 4)]) (g := gName 4) (tt := tYes) rfl sc__law_drawn_spot.nd (pi_list (pv 13)) (blkOk_by (own := [("_law_one", 4)]) (N := ["_law_pot_here", "_law_marks_here", "_law_way", "_law_lines_here", "_law_one", "_law_other", "_law_met", "_law_a", "_law_b", "_law_c", "_law_d", "_law_above", "_law_under", "_law_some_here", "_law_lean", "_law_far", "_law_name", "_law_place"]) (sc := defScope s__law_drawn_spot) (by decide +kernel)) (fun _ _ _ _ _ => (pg_name (i := 4) sc__law_drawn_spot.nd rfl (Or.inl rfl))) (fun _ _ _ _ _ => pts_nil) (fun _ _ _ _ _ => (pe_ix (show IxR _ (rIxT K) from ix_tup) (pv 4) pe_int (fun _ _ => rfl)))) pa_nil)) (pa_cons pe_int pa_nil))))))) pss_nil)
      (pss_cons (ps_if (pt_cmpR op_eq (pv 2) pe_int (nomark _)) (pss_cons (ps_asg (pe_fn G__law_of hq (hr.mono (by omega)) (by rfl) T.g__law_of T.k__law_of b__law_of .nil pass0 (pa_cons (pv 0) (pa_cons (pv 3) pa_nil))) (pg_tup rfl (pgs_cons (pg_tup rfl (pgs_cons (pg_name (i := 7) sc__law_drawn_spot.nd rfl (Or.inl rfl)) (pgs_cons (pg_name (i := 8) sc__law_drawn_spot.nd rfl (Or.inl rfl)) pgs_nil))) (pgs_cons (pg_tup rfl (pgs_cons (pg_name (i := 9) sc__law_drawn_spot.nd rfl (Or.inl rfl)) (pgs_cons (pg_name (i := 10) sc__law_drawn_spot.nd rfl (Or.inl rfl)) pgs_nil))) pgs_nil))))
      (pss_cons (ps_set (i := 14) sc__law_drawn_spot.nd rfl (Or.inl rfl) (pe_fn G__law_of hq (hr.mono (by omega)) (by rfl) T.g__law_of T.k__law_of b__law_of .nil pass0 (pa_cons (pv 0) (pa_cons (pe_lstS (pa_cons pe_int (pa_cons (pe_un un_neg pe_int) pa_nil))) pa_nil))))
      (pss_one (ps_ret (pe_fn G__law_spot hq (hr.mono (by omega)) (by rfl) T.g__law_spot T.k__law_spot b__law_spot .nil pass0 (pa_cons (pe_op op_add (pe_op op_mulW pe_int (pe_op op_add (pv 7) (pv 9))) (pv 14)) (pa_cons (pe_op op_add (pe_op op_mulW pe_int (pe_op op_add (pv 8) (pv 10))) (pe_op op_mulW (pv 14) (pe_fn G__law_take hq (hr.mono (by omega)) (by rfl) T.g__law_take T.k__law_take b__law_take .nil pass0 (pa_cons (pv 0) (pa_cons pe_int pa_nil))))) (pa_cons pe_int pa_nil)))))))) pss_nil)
      (pss_cons (ps_set (i := 15) sc__law_drawn_spot.nd rfl (Or.inl rfl) (pe_fn G__law_of hq (hr.mono (by omega)) (by rfl) T.g__law_of T.k__law_of b__law_of .nil pass0 (pa_cons (pv 0) (pa_cons (pe_lstS (pa_cons pe_int (pa_cons (pe_op op_powW pe_int pe_int) (pa_cons (pe_op op_powW pe_int pe_int) pa_nil)))) pa_nil))))
      (pss_one (ps_ret (pe_tup (pa_cons (pe_fn G__law_of hq (hr.mono (by omega)) (by rfl) T.g__law_of T.k__law_of b__law_of .nil pass0 (pa_cons (pv 0) (pa_cons (pe_lstS (pa_cons (pv 15) (pa_cons (pe_un un_neg (pv 15)) (pa_cons pe_int (pa_cons pe_int pa_nil))))) pa_nil))) (pa_cons (pe_fn G__law_of hq (hr.mono (by omega)) (by rfl) T.g__law_of T.k__law_of b__law_of .nil pass0 (pa_cons (pv 0) (pa_cons (pe_lstS (pa_cons (pv 15) (pa_cons (pe_un un_neg (pv 15)) (pa_cons pe_int (pa_cons (pe_un un_neg pe_int) pa_nil))))) pa_nil))) (pa_cons (pe_op op_add pe_int (pe_fn G__law_take hq (hr.mono (by omega)) (by rfl) T.g__law_take T.k__law_take b__law_take .nil pass0 (pa_cons (pv 0) (pa_cons pe_int pa_nil)))) pa_nil))))))))))))), ?body⟩)
  case len => obtain ⟨p, m, n, us, ms, rfl, _⟩ := h; rfl
  case body =>
    obtain ⟨p, m, n, us, ms, rfl, pot, hn, hm, nm, hp, hl, q⟩ := h
    have hsz := sizeLine_eq
    refine ⟨_, rfl, p, 6, n, rfl, pot, by omega, by omega, by omega, fun wy H1 w0 w1 g1 => ?_⟩
    have hm1 := g1.at hm nm
    have hp1 := hp.go pot g1
    refine ⟨_, rfl, m, us, ms, rfl, hm1, hp1, by omega, by omega, fun L ws H2 nL0 S2 hL l1 l2 hw => ⟨_, _, rfl, ?_⟩⟩
    have nL : L ≠ p := g1.pot.new nL0
    have wne : ws ≠ [] := fun z => by rw [z] at l1; simp at l1
    have G2 := g1.fwd S2
    refine ⟨_, rfl, rfl, _, rfl, ite2 (fun c => ?_) (fun c => ?_)⟩
    · refine ⟨_, rfl, p, 41, n + 1, rfl, G2.pot, by omega, by omega, by omega, fun x H3 x0 x1 g3 => ⟨_, _, rfl, rfl, ?_⟩⟩
      refine ⟨_, rfl, p, 41, n + 2, rfl, g3.pot, by omega, by omega, by omega, fun y H4 y0 y1 g4 => ⟨_, _, rfl, rfl, ?_⟩⟩
      refine ⟨_, rfl, p, 3, n + 3, rfl, g4.pot, by omega, by omega, by omega, fun d H5 d0 d1 g5 => ⟨_, _, rfl, rfl, (by show 3 ≤ sizeLine; decide), fun o no => ?_⟩⟩
      refine q _ (x - 20) (y - 20) (1 + d) _ ((((G2.trans g3).trans g4).trans g5).fwd (same_new no) |>.mono (by omega)) ⟨⟨o, rfl, upd_same⟩, by omega, ?_, ?_, ?_⟩ <;> exact Ib.mono (m := 10) (show Int.natAbs _ < 2 ^ 10 by omega) (by omega)
    refine ⟨_, rfl, rfl, _, rfl, ite2 (fun c1 => ?_) (fun c1 => ?_)⟩
    · refine ⟨_, rfl, _, rfl, p, L, n + 1, ws, rfl, nL, G2.pot, by omega, hL, wne, by omega, fun u1 H3 hu1 g3 => ?_⟩
      refine ⟨_, rfl, _, rfl, p, L, n + 2, ws, rfl, nL, g3.pot, by omega, g3.at hL nL, wne, by omega, fun u2 H4 hu2 g4 => ⟨_, _, rfl, ?_⟩⟩
      obtain ⟨x1, y1, x2, y2, m1, n1, n2⟩ := hw u1 hu1
      obtain ⟨x3, y3, x4, y4, m2, n3, n4⟩ := hw u2 hu2
      have m1 := (m1.go G2.pot g3).go g3.pot g4
      have m2 := (m2.go G2.pot g3).go g3.pot g4
      have G4 := (G2.trans g3).trans g4
      refine ⟨_, rfl, _, rfl, u1, u2, x1, y1, x2, y2, x3, y3, x4, y4, rfl, m1, m2, ⟨n1.ib.1, n1.ib.2, n2.ib.1, n2.ib.2⟩, ⟨n3.ib.1, n3.ib.2, n4.ib.1, n4.ib.2⟩, fun H5 S5 => ?_, fun v H5 x y d S5 dt => ?_⟩
      · obtain ⟨t, q1, r1, rfl, e1, e2, e3⟩ := m1.same S5
        refine ⟨_, rfl, rfl, _, rfl, ite2 (fun c => absurd c (by decide)) (fun _ => ?_)⟩
        refine ⟨_, rfl, t, _, _, _, rfl, rfl, SqT.of e1, rfl, q1, _, _, _, rfl, rfl, SqT.of e2, rfl, _, rfl, t, _, _, _, rfl, rfl, SqT.of e1, rfl, q1, _, _, _, rfl, rfl, SqT.of e2, rfl, (by show 3 ≤ sizeLine; decide), fun o no => ?_⟩
        exact q _ _ _ _ _ ((G4.fwd S5).fwd (same_new no) |>.mono (by omega)) ⟨⟨o, rfl, upd_same⟩, by decide, n1.ib.1.mono (by omega), n1.ib.2.mono (by omega), (show (1 : Int).natAbs < 2 ^ 60 by decide)⟩
      · have vn : v ≠ .non := by
          obtain ⟨⟨t, rfl, _⟩, _⟩ := dt
          exact fun z => nomatch z
        refine ⟨_, rfl, rfl, _, rfl, ite2 (fun _ => ⟨_, rfl, q _ x y d _ ((G4.fwd S5).mono (by omega)) dt⟩) (fun c => absurd (by simp [vn]) c)⟩
    refine ⟨_, rfl, rfl, _, rfl, ite2 (fun c2 => ?_) (fun c2 => ?_)⟩
    · refine ⟨_, rfl, _, rfl, p, L, n + 1, ws, rfl, nL, G2.pot, by omega, hL, wne, by omega, fun u1 H3 hu1 g3 => ?_⟩
      obtain ⟨x1, y1, x2, y2, m1, n1, n2⟩ := hw u1 hu1
      obtain ⟨t, q1, r1, rfl, e1, e2, e3⟩ := m1.go G2.pot g3
      have G3 := G2.trans g3
      refine ⟨t, _, rfl, SqT.of e1, rfl, _, _, rfl, q1, _, rfl, SqT.of e2, rfl, _, _, rfl, _, _, rfl, rfl, _, _, rfl, r1, _, rfl, SqT.of e3, rfl, _, _, rfl, _, _, rfl, rfl, rfl, ?_⟩
      show tSeq _ _ _ [some (.ref p), some (.ref m), some (.int wy), some (.ref L), none, none, none, some (.int x1), some (.int y1), some (.int x2), some (.int y2), none, none, none, none, none, none, none] H3
      refine ⟨_, rfl, p, 13, n + 2, rfl, G3.pot, by omega, by omega, by omega, fun ab H4 a0 a1 g4 => ⟨_, _, rfl, rfl, ?_⟩⟩
      refine ⟨_, rfl, p, 5, n + 3, rfl, g4.pot, by omega, by omega, by omega, fun un H5 b0 b1 g5 => ⟨_, _, rfl, rfl, _, _, rfl, ?_⟩⟩
      have iab : Ib 4 (ab - 6) := (show Int.natAbs _ < 2 ^ 4 by omega)
      have iun : Ib 3 (1 + un) := (show Int.natAbs _ < 2 ^ 3 by omega)
      obtain ⟨i1, i2⟩ := n1.ib
      obtain ⟨i3, i4⟩ := n2.ib
      refine ⟨_, rfl, _, rfl, _, _, rfl, rfl, i1.cw iun (by omega) (by omega), _, rfl, _, rfl, _, rfl, _, _, rfl, rfl, _, _, rfl, rfl, iab.cw (i3.sub i1) (by omega) (by omega), _, _, rfl, rfl, ?_⟩
      refine ⟨_, rfl, _, rfl, _, _, rfl, rfl, i2.cw iun (by omega) (by omega), _, rfl, _, rfl, _, rfl, _, _, rfl, rfl, _, _, rfl, rfl, iab.cw (i4.sub i2) (by omega) (by omega), _, _, rfl, rfl, _, rfl, ?_⟩
      refine ⟨_, _, _, 40, rfl, by show (1 + un : Int) ≠ 0; omega, ?_, ?_, iun.mono (by omega), by omega, fun v H6 x y d S6 dt _ _ => q v x y d H6 (((G3.trans g4).trans g5).fwd S6 |>.mono (by omega)) (dt.mono (by omega))⟩
      · exact (((i1.mul iun).mono (n := 20) (by omega)).add ((iab.mul (i3.sub i1)).mono (by omega))).mono (by omega)
      · exact (((i2.mul iun).mono (n := 20) (by omega)).add ((iab.mul (i4.sub i2)).mono (by omega))).mono (by omega)
    refine ⟨_, rfl, rfl, _, rfl, ite2 (fun c3 => ?_) (fun c3 => ?_)⟩
    · refine ⟨_, rfl, _, rfl, p, m, 3, n + 1, us, rfl, nm, G2.pot, by omega, S2 _ _ hm1, by omega, by omega, fun l vs H3 lv sub hl3 nl3 g3 => ⟨l, rfl, ⟨_, SqL.of hl3⟩, fun D nD => ?_⟩⟩
      have G3 := G2.trans g3
      have hp3 := ((hp1.same S2).go G2.pot g3)
      have mem : ∀ v ∈ vs, ∃ x : Int × Int, MkAt H3 v x.1 x.2 ∧ Nr x := fun v hv => by
        obtain ⟨i, hi⟩ := List.mem_iff_getElem?.mp (sub v hv)
        obtain ⟨x, _, h⟩ := paired_at hp3 hi
        exact ⟨x, h⟩
      refine lc_relW walk_list (fun i y H' => ∃ x : Int × Int, Pt H' y [x.1, x.2] ∧ Nr x) ?hR nD (fun H' S => S.seq (SqL.of hl3)) (by omega) ?he ?hd
      case hR =>
        rintro i y H5 H6 nl ⟨x, ⟨t, rfl, e⟩, nr⟩
        exact ⟨x, ⟨t, rfl, nl _ _ e (fun zs z => nomatch z)⟩, nr⟩
      case he =>
        rintro i x H5 H6 Q' N hi S ⟨rfl, hx⟩ qy
        obtain ⟨X, ⟨t, z, u, rfl, e1, e2⟩, nr⟩ := mem x (List.mem_of_getElem? hx)
        refine ⟨t, _, rfl, SqT.of (S _ _ e1), rfl, _, _, rfl, _, _, rfl, rfl, rfl, yesI ⟨_, rfl, ?_⟩⟩
        exact qy _ _ (Same.refl _) ⟨X, ⟨u, rfl, S _ _ e2⟩, nr⟩
      case hd =>
        intro ys H4 S4 hD hly hys
        have h3 : ys.length = 3 := by omega
        obtain ⟨A, B, C, rfl⟩ : ∃ A B C, ys = [A, B, C] := by
          rcases ys with _ | ⟨A, _ | ⟨B, _ | ⟨C, _ | ⟨D', ys⟩⟩⟩⟩ <;> simp at h3
          exact ⟨A, B, C, rfl⟩
        obtain ⟨X, hA, nA⟩ := hys 0 _ rfl
        obtain ⟨Y, hB, nB⟩ := hys 1 _ rfl
        obtain ⟨Z, hC, nC⟩ := hys 2 _ rfl
        have hP : Paired (fun v x => Pt H4 v [x.1, x.2]) [A, B, C] [X, Y, Z] := .cons hA (.cons hB (.cons hC .nil))
        have ssum : ∀ f : Int × Int → Int, (∀ x, Nr x → -999 ≤ f x ∧ f x ≤ 999) → Ib 12 ([X, Y, Z].map f).sum := fun f hf => by
          have := hf _ nA
          have := hf _ nB
          have := hf _ nC
          show Int.natAbs (f X + (f Y + (f Z + 0))) < 2 ^ 12
          omega
        refine ⟨_, rfl, D, rfl, ⟨_, SqL.of hD⟩, fun D1 nD1 => lc_relW walk_list (fun i y _ => ([X, Y, Z].map fun w => V.int w.1)[i]? = some y) (fun _ _ _ _ _ h => h) nD1 (fun H' S => S.seq (SqL.of hD)) (by show 3 < sizeLine; omega) ?he2 ?hd2⟩
        case he2 =>
          rintro i x H5 H6 Q' N hi S ⟨rfl, hx⟩ qy
          obtain ⟨W, hW, t, rfl, e⟩ := paired_at hP hx
          refine ⟨rfl, yesI ⟨_, rfl, t, _, _, _, rfl, rfl, SqT.of (S _ _ e), rfl, ?_⟩⟩
          exact qy _ _ (Same.refl _) (by rw [List.getElem?_map, hW]; rfl)
        case hd2 =>
          intro zs H5 S5 hD1 hlz hzs
          have ez : zs = ([X, Y, Z].map fun w => w.1).map V.int := List.ext_getElem? fun i => by
            rcases Nat.lt_or_ge i zs.length with h | h
            · rw [List.getElem?_eq_getElem h, ← hzs i _ (List.getElem?_eq_getElem h), List.map_map]
              rfl
            · rw [List.getElem?_eq_none h, List.getElem?_eq_none (by simpa using (by rw [hlz] at h; exact h))]
          refine ⟨D1, [X, Y, Z].map fun w => w.1, rfl, SqL.of (ez ▸ hD1), ?_⟩
          refine ⟨_, rfl, D, rfl, ⟨_, SqL.of (S5 _ _ hD)⟩, fun D2 nD2 => lc_relW walk_list (fun i y _ => ([X, Y, Z].map fun w => V.int w.2)[i]? = some y) (fun _ _ _ _ _ h => h) nD2 (fun H' S => S.seq (SqL.of (S5 _ _ hD))) (by show 3 < sizeLine; omega) ?he3 ?hd3⟩
          case he3 =>
            rintro i x H6 H7 Q' N hi S ⟨rfl, hx⟩ qy
            obtain ⟨W, hW, t, rfl, e⟩ := paired_at hP hx
            refine ⟨rfl, yesI ⟨_, rfl, t, _, _, _, rfl, rfl, SqT.of (S _ _ (S5 _ _ e)), rfl, ?_⟩⟩
            exact qy _ _ (Same.refl _) (by rw [List.getElem?_map, hW]; rfl)
          case hd3 =>
            intro zs2 H6 S6 hD2 hlz2 hzs2
            have ez : zs2 = ([X, Y, Z].map fun w => w.2).map V.int := List.ext_getElem? fun i => by
              rcases Nat.lt_or_ge i zs2.length with h | h
              · rw [List.getElem?_eq_getElem h, ← hzs2 i _ (List.getElem?_eq_getElem h), List.map_map]
                rfl
              · rw [List.getElem?_eq_none h, List.getElem?_eq_none (by simpa using (by rw [hlz2] at h; exact h))]
            refine ⟨D2, [X, Y, Z].map fun w => w.2, rfl, SqL.of (ez ▸ hD2), ?_⟩
            exact ⟨_, _, 3, 12, rfl, by decide, ssum _ fun x h => h.1, ssum _ fun x h => h.2, (show (3 : Int).natAbs < 2 ^ 12 by decide), by omega, fun v H7 x y d S7 dt _ _ => q v x y d H7 ((((G3.fwd S4).fwd S5).fwd S6).fwd S7 |>.mono (by omega)) (dt.mono (by omega))⟩
    refine ⟨_, rfl, rfl, _, rfl, ite2 (fun c4 => ?_) (fun c4 => ?_)⟩
    · refine ⟨_, rfl, _, rfl, p, L, n + 1, ws, rfl, nL, G2.pot, by omega, hL, wne, by omega, fun u1 H3 hu1 g3 => ?_⟩
      obtain ⟨x1, y1, x2, y2, m1, n1, n2⟩ := hw u1 hu1
      obtain ⟨t, q1, r1, rfl, e1, e2, e3⟩ := m1.go G2.pot g3
      have G3 := G2.trans g3
      refine ⟨t, _, rfl, SqT.of e1, rfl, _, _, rfl, q1, _, rfl, SqT.of e2, rfl, _, _, rfl, _, _, rfl, rfl, _, _, rfl, r1, _, rfl, SqT.of e3, rfl, _, _, rfl, _, _, rfl, rfl, rfl, ?_⟩
      show tSeq _ _ _ [some (.ref p), some (.ref m), some (.int wy), some (.ref L), none, none, none, some (.int x1), some (.int y1), some (.int x2), some (.int y2), none, none, none, none, none, none, none] H3
      refine ⟨_, rfl, _, rfl, (by show 2 ≤ sizeLine; decide), fun l5 nl5 _ => ?_⟩
      refine ⟨p, l5, n + 2, _, rfl, G3.pot.new nl5, G3.pot.same (same_new nl5), by omega, upd_same, (fun z => nomatch z), by decide, fun x H4 hx g4 => ?_⟩
      have G4 := G3.trans (Go.of (same_new nl5) g4)
      obtain ⟨ln, rfl, ln1⟩ : ∃ ln : Int, x = .int ln ∧ (ln = 1 ∨ ln = -1) := by
        simp only [List.mem_cons, List.not_mem_nil, or_false] at hx
        rcases hx with h | h
        · exact ⟨1, h, .inl rfl⟩
        · exact ⟨-1, h, .inr rfl⟩
      obtain ⟨i1, i2⟩ := n1.ib
      obtain ⟨i3, i4⟩ := n2.ib
      have i50 : Ib 6 50 := (show (50 : Int).natAbs < 2 ^ 6 by decide)
      have iln : Ib 2 ln := (show ln.natAbs < 2 ^ 2 by omega)
      refine ⟨_, rfl, _, rfl, _, _, rfl, rfl, _, _, rfl, rfl, i50.cw (i1.add i3) (by omega) (by omega), _, rfl, _, _, rfl, rfl, ?_⟩
      refine ⟨_, rfl, _, rfl, _, _, rfl, rfl, _, _, rfl, rfl, i50.cw (i2.add i4) (by omega) (by omega), _, rfl, _, rfl, p, 3, n + 3, rfl, G4.pot, by omega, by omega, by omega, fun tk H5 k0 k1 g5 => ?_⟩
      have itk : Ib 2 tk := (show tk.natAbs < 2 ^ 2 by omega)
      refine ⟨_, _, rfl, rfl, iln.cw itk (by omega) (by omega), _, _, rfl, rfl, ?_⟩
      refine ⟨_, _, 100, 40, rfl, by decide, ?_, ?_, (show (100 : Int).natAbs < 2 ^ 40 by decide), by omega, fun v H6 x y d S6 dt _ _ => q v x y d H6 ((G4.trans g5).fwd S6 |>.mono (by omega)) (dt.mono (by omega))⟩
      · exact (((i50.mul (i1.add i3)).mono (n := 20) (by omega)).add (iln.mono (by omega))).mono (by omega)
      · exact (((i50.mul (i2.add i4)).mono (n := 20) (by omega)).add ((iln.mul itk).mono (by omega))).mono (by omega)
    refine ⟨_, rfl, _, _, rfl, rfl, ⟨by decide, by decide, by decide +kernel⟩, _, _, rfl, rfl, ⟨by decide, by decide, by decide +kernel⟩, (by show 3 ≤ sizeLine; decide), fun l3 nl3 _ => ?_⟩
    refine ⟨p, l3, n + 1, _, rfl, G2.pot.new nl3, G2.pot.same (same_new nl3), by omega, upd_same, (fun z => nomatch z), by decide, fun x H3 hx g3 => ?_⟩
    have G3 := G2.trans (Go.of (same_new nl3) g3)
    obtain ⟨f, rfl, f1, f2⟩ : ∃ f : Int, x = .int f ∧ 0 ≤ f ∧ f ≤ 10 ^ 8 := by
      simp only [List.mem_cons, List.not_mem_nil, or_false] at hx
      rcases hx with h | h | h <;> exact ⟨_, h, by decide +kernel, by decide +kernel⟩
    have bnd : ∀ y : Int, (y = f ∨ y = -f ∨ y = 0 ∨ y = 3 ∨ y = -2) → Ib 60 y := fun y hy => show y.natAbs < 2 ^ 60 by
      have : f ≤ 100000000 := f2
      omega
    refine ⟨_, rfl, _, rfl, _, rfl, _, rfl, (by show 4 ≤ sizeLine; decide), fun l4 nl4 _ => ?_⟩
    refine ⟨p, l4, n + 2, _, rfl, g3.pot.new nl4, G3.pot.same (same_new nl4), by omega, upd_same, (fun z => nomatch z), (by show 4 ≤ 10 ^ 6; decide), fun x4 H4 hx4 g4 => ?_⟩
    have G4 := G3.trans (Go.of (same_new nl4) g4)
    obtain ⟨y4, rfl, i4⟩ : ∃ y : Int, x4 = .int y ∧ Ib 60 y := by
      simp only [List.mem_cons, List.not_mem_nil, or_false] at hx4
      rcases hx4 with h | h | h | h
      · exact ⟨_, h, bnd _ (.inl rfl)⟩
      · exact ⟨_, h, bnd _ (.inr (.inl rfl))⟩
      · exact ⟨_, h, bnd _ (.inr (.inr (.inl rfl)))⟩
      · exact ⟨_, h, bnd _ (.inr (.inr (.inr (.inl rfl))))⟩
    refine ⟨_, rfl, _, rfl, _, rfl, _, rfl, _, rfl, (by show 4 ≤ sizeLine; decide), fun l5 nl5 _ => ?_⟩
    refine ⟨p, l5, n + 3, _, rfl, G4.pot.new nl5, G4.pot.same (same_new nl5), by omega, upd_same, (fun z => nomatch z), (by show 4 ≤ 10 ^ 6; decide), fun x5 H5 hx5 g5 => ?_⟩
    have G5 := G4.trans (Go.of (same_new nl5) g5)
    obtain ⟨y5, rfl, i5⟩ : ∃ y : Int, x5 = .int y ∧ Ib 60 y := by
      simp only [List.mem_cons, List.not_mem_nil, or_false] at hx5
      rcases hx5 with h | h | h | h
      · exact ⟨_, h, bnd _ (.inl rfl)⟩
      · exact ⟨_, h, bnd _ (.inr (.inl rfl))⟩
      · exact ⟨_, h, bnd _ (.inr (.inr (.inl rfl)))⟩
      · exact ⟨_, h, bnd _ (.inr (.inr (.inr (.inr rfl))))⟩
    refine ⟨_, rfl, p, 7, n + 4, rfl, G5.pot, by omega, by omega, by omega, fun tk H6 k0 k1 g6 => ?_⟩
    refine ⟨_, _, rfl, rfl, (by show 3 ≤ sizeLine; decide), fun o no => ?_⟩
    exact q _ y4 y5 (1 + tk) _ ((G5.trans g6).fwd (same_new no)) ⟨⟨o, rfl, upd_same⟩, by omega, i4, i5, (show Int.natAbs _ < 2 ^ 60 by omega)⟩
end
end My

namespace G
open PySem PySem.Spec PyProof.Rows L2

/-! ### enumerate(tuple) -/
def ItE (K : PySem.W.Frag) (a : Addr) (k : Int) : It :=
  ⟨fun i H => ∃ xs x, SqT K H a xs ∧ xs[i]? = some x,
    fun i H v H' => ∃ T x, v = .ref T ∧ H T = none ∧ H' = upd H T (.tup [.int (k + (i : Nat)), x]) ∧ ∀ xs, SqT K H a xs → xs[i]? = some x,
    fun i H => ∃ xs, SqT K H a xs ∧ xs.length = i⟩
theorem turn_e {P : Program} {w : World} {K : PySem.W.Frag} {elts : List Expr} {kk : Nat} {tpos : Pos} {a e it : Addr} {k : Int} (ne : e ≠ it) (nea : e ≠ a) (nia : a ≠ it) :
    Turn P w K (.Tuple elts kk tpos) (ItE K a k) [e, it] e (fun i h => (∃ old, IsEnum h e it (k + ((i : Nat) : Int)) old) ∧ ItOf .tu h it a i) where
  mem := by simp
  obj := fun i h st c hc => by
    obtain ⟨⟨old, g1⟩, g2⟩ := st
    simp only [List.mem_cons, List.not_mem_nil, or_false] at hc
    rcases hc with q | q <;> rw [q]
    · exact ⟨_, g1, fun v q => nomatch q⟩
    · exact itOf_obj g2
  keep := fun i h h' st kp => by
    obtain ⟨⟨old, g1⟩, g2⟩ := st
    exact ⟨⟨old, kp e (by simp) _ g1⟩, itOf_at g2 fun o q => kp it (by simp) o q⟩
  item := by
    intro X hP hw hK hc i pins s σ H E I hf st hg
    subst hP hw
    obtain ⟨⟨old, g1⟩, g2⟩ := st
    obtain ⟨xs, x, hqx, hx⟩ := hg
    obtain ⟨its, rv, p, _⟩ := SqOf.ob (k := .tu) I hK hqx
    obtain ⟨u, hu, ru⟩ := rv.get hx
    have hel : e < s.heap.objs.size := Heap.lt_size g1
    have lu : i < its.toArray.size := by simpa using (List.getElem?_eq_some_iff.mp hu).1
    have hh : X.A.in1.handled = none := I.ok.hd hc
    refine wpAny_pyNext_enum_itemC (draw .tu hh it a nia its.toArray) g1 ⟨g2, p⟩ lu ne (by simp [ne, nea]) fun v h' tk ev ho hs' hT hsz hk => ?_
    have ev : v = u := by
      have z : its.toArray[i]? = some u := by simpa using hu
      rw [z] at ev
      exact (Option.some.inj ev).symm
    subst ev
    refine ⟨_, rfl, wpAny_letOwnedTupleGo_enum (s := { s with heap := h', toks := tk + 1 }) ho fun h'' z'' sb => ?_⟩
    have hT2 : h''.get? s.heap.objs.size = some { cls := .type "tuple", data := .seq #[.int (k + (i : Nat)) tk, v] } := (sb.2 _ (Nat.ne_of_gt hel)).trans hT
    have new : ObjOk X.prog X.w (upd H s.heap.objs.size (.tup [.int (k + (i : Nat)), x])) h'' s.heap.objs.size (.tup [.int (k + (i : Nat)), x]) :=
      ⟨by show 2 ≤ sizeLine; decide, [.int (k + (i : Nat)) tk, v], .cons ⟨_, rfl⟩ (.cons ru .nil), ⟨_, hT2, rfl, _, rfl⟩⟩
    have I1 : Inv X pins σ (upd H s.heap.objs.size (.tup [.int (k + (i : Nat)), x])) { s with heap := h'', toks := tk + 1 } :=
      I.turnedNew (t' := tk + 1) (ch := [e, it]) (fun c o hb q => (sb.2 c (fun q' => hb (by simp [q']))).trans (hk c o (fun q' => hb (by simp [q'])) (fun q' => hb (by simp [q'])) q)) hf (Nat.le_refl _) new
    refine ⟨.ref s.heap.objs.size, _, I1, rfl, ⟨_, x, rfl, I.hok.fresh (Nat.le_refl _), rfl, fun l hl => by rw [SqOf.inj (k := .tu) I hK hl hqx]; exact hx⟩, ⟨⟨v, ?_⟩, ?_⟩, fun c hcm => ?_⟩
    · rw [show k + ((i + 1 : Nat) : Int) = k + (i : Nat) + 1 by omega]
      exact z''
    · exact itOf_at hs'.1 fun o q => (sb.2 _ (Ne.symm ne)).trans q
    · have hlt : c < s.heap.objs.size := by
        simp only [List.mem_cons, List.not_mem_nil, or_false] at hcm
        rcases hcm with q | q <;> rw [q]
        · exact hel
        · obtain ⟨_, e, _⟩ := itOf_obj g2; exact Heap.lt_size e
      rw [upd_ne (Nat.ne_of_lt hlt)]
      exact (hf c hcm).1
  done := by
    intro X hP hw hK hc i pins s σ H E I hf st hg
    subst hP hw
    obtain ⟨⟨old, g1⟩, g2⟩ := st
    obtain ⟨xs, hqx, le⟩ := hg
    obtain ⟨its, rv, p, _⟩ := SqOf.ob (k := .tu) I hK hqx
    have l1 := rv.length
    have hh : X.A.in1.handled = none := I.ok.hd hc
    obtain ⟨f0, f1, f2, f3, f4, f5⟩ := hf it (by simp)
    have sz : its.toArray.size = i := by simp; omega
    refine wpAny_pyNext_enum_endD (draw .tu hh it a nia its.toArray) g1 ⟨by rw [sz]; exact g2, p⟩ fun h' eb => ⟨rfl, I.turned (t' := s.toks) (fun b o hb q => eb b o hb q) f0 f1 f3 f4 f5⟩
  self := fun A i s Q E st h => let ⟨⟨_, he⟩, _⟩ := st; wpAny_pyIter_enum he h
/-- the cell of an enumerate that begins at 0 over the iterator at b -/
def enumCell (b : Addr) : Obj := { cls := .type "enumerate", data := .fields #[.none, .bool false, .ref b, rawInt 0, .none, .none] }
set_option maxHeartbeats 1000000 in
theorem meets_enum1 {v : Value} {c : Obj} {J : Heap → Prop} (beg : Begins v c J) :
    Meets (Builtin.«enumerate.__new__» ⟨[.type "enumerate", v], []⟩) (fun _ after st => J st.heap ∧ after (.ok (.ret (.ref (st.heap.push c).objs.size))) { st with heap := (st.heap.push c).push (enumCell st.heap.objs.size) }) :=
  .of_wp fun prog w A after st both => by
    rcases st with ⟨hp, g, d, tk, os⟩
    have sub := sub_enumerate
    have it : ∀ {B : Around} {F : Value → Shared → Prop} {S : Value → Shared → Prop}, S (.ref hp.objs.size) ⟨hp.push c, g, d, tk, os⟩ → wpAny (model prog w) B (pyIter v) S F ⟨hp, g, d, tk, os⟩ := fun z => beg.iter prog w _ _ ⟨hp, g, d, tk, os⟩ _ both.1 z
    wp_walk using it
    refine wpAny_stack_any fun _ => wpAny_pure ?_
    split
    next k _ _ _ _ _ =>
      cases (k == Value.type "enumerate") <;> (wp_walk using it; exact ⟨_, rfl, both.2⟩)
    next => wp_walk using it; exact ⟨_, rfl, both.2⟩
theorem enum1 {prog : Program} {w : World} {A : Around} {E : Value → Shared → Prop} {s : Shared} {v : Value} {c : Obj} {J : Heap → Prop} {Q : Value → Shared → Prop} (beg : Begins v c J) (j : J s.heap)
    (q : ∀ h', IsEnum h' (s.heap.objs.size + 1) s.heap.objs.size 0 .none → h'.get? s.heap.objs.size = some c → (∀ b o, s.heap.get? b = some o → h'.get? b = some o) → Q (.ref (s.heap.objs.size + 1)) { s with heap := h' }) :
    wpAny (model prog w) A (call (.type "enumerate") [v]) Q E s := by
  have z : (s.heap.push c).objs.size = s.heap.objs.size + 1 := Heap.size_push ..
  have at1 : ((s.heap.push c).push (enumCell s.heap.objs.size)).get? (s.heap.objs.size + 1) = some (enumCell s.heap.objs.size) := by
    rw [← z]
    exact Heap.get?_push_size _ rfl
  refine callType_new F.called_enumerate (by decide) (F.typeCall_enumerate_1 _) (F.newCall_enumerate_1 _) (fun x => F.args_object_init_2 x _) F.entry_enumerate_new (meets_enum1 beg) ⟨j, ?_⟩
  show _ ∧ _
  rw [z]
  exact ⟨⟨_, at1, rfl⟩, q _ at1 (Heap.get?_push_of_some _ (Heap.get?_push_size _ beg.free)) fun b o e => Heap.get?_push_of_some _ (Heap.get?_push_of_some _ e)⟩
def iEnumT (K : PySem.W.Frag) (ta : TA) : TI := fun σ H R => ta σ H fun vs H1 => ∃ a xs, vs = [.ref a] ∧ SqT K H1 a xs ∧ R (ItE K a 0) H1
theorem pi_enumT {X : Cx} {e : Expr} {ta : TA} {p pos tpos : Pos} {elts : List Expr} {kk : Nat} (hg : Gl X "enumerate") (hm : X.mg "enumerate" = none) (ha : PA X [e] ta) (hs : starEach [e] X.env = [(false, eval e X.env)] := by rfl) :
    PI X (.Tuple elts kk tpos) (.Call (.Name "enumerate" p) [e] [] pos) (iEnumT X.K ta) := by
  refine ⟨fun pins s σ H R I h => ?_⟩
  refine Call_ (ld_blt I hg hm boot_enumerate (PyProof.Rows.callWith_type1 (thn (ha.run pos pins s σ H _ I h) fun us s1 ⟨vs, H1, I1, r1, q1⟩ => ?_) hs rfl))
  obtain ⟨a, xs, rfl, hq, q⟩ := q1
  obtain ⟨u, rfl, ru⟩ := vals1 r1
  cases ru
  obtain ⟨its, rv, p1, la⟩ := SqOf.ob (k := .tu) I1 rfl hq
  refine enum1 (begin_ .tu a its.toArray) p1 fun h' he hit hkp => wpAny_pyIter_enum he ?_
  have I3 : Inv X pins σ H1 { s1 with heap := h' } := I1.kept (t' := s1.toks) hkp
  have n1 : s1.heap.objs.size + 1 ≠ s1.heap.objs.size := Nat.succ_ne_self _
  refine ⟨s1.heap.objs.size + 1, [s1.heap.objs.size + 1, s1.heap.objs.size], _, _, H1, rfl, I3, turn_e (a := a) (k := 0) n1 (Nat.ne_of_gt (Nat.lt_succ_of_lt la)) (Nat.ne_of_lt la), ⟨⟨.none, ?_⟩, itOf_new hit⟩, fun c hcm => ?_, q⟩
  · exact he
  · have hle : s1.heap.objs.size ≤ c := by
      simp only [List.mem_cons, List.not_mem_nil, or_false] at hcm
      rcases hcm with z | z <;> rw [z]
      · exact Nat.le_add_right _ _
      · exact Nat.le_refl _
    exact I1.fpOk hle (I1.hok.fresh hle)
theorem walk_e {K : PySem.W.Frag} {a : Addr} {xs : List V} {k : Int} : Walk (ItE K a k) xs.length (fun H => SqT K H a xs) (YPair (fun i => some (.int (k + (i : Nat)))) (fun i => xs[i]?)) where
  goes := fun i _ hi q => ⟨xs, xs[i], q, by simp [hi]⟩
  stops := fun _ q => ⟨xs, q, rfl⟩
  yields := fun i H v H' _ q y => by
    obtain ⟨T, x, e1, e2, e3, e4⟩ := y
    exact ⟨T, .int (k + (i : Nat)), x, e1, e2, e3, rfl, e4 xs q⟩
end G

namespace My
open PySem PySem.Spec PyProof.Rows L2 G
abbrev s__is_corner : Stmt := topS 32
theorem sc__is_corner : FnScope ["value", "number"] ["value"] (defScope s__is_corner) := ⟨rfl, rfl, rfl, by decide +kernel, rfl, by decide +kernel, by decide +kernel⟩

abbrev s_line_through : Stmt := topS 27
theorem sc_line_through : FnScope ["x", "y", "to_x", "to_y", "a", "b"] ["x", "y", "to_x", "to_y"] (defScope s_line_through) := ⟨rfl, rfl, rfl, by decide +kernel, rfl, by decide +kernel, by decide +kernel⟩

abbrev s_spot_of : Stmt := topS 28
theorem sc_spot_of : FnScope ["point", "x", "y"] ["point"] (defScope s_spot_of) := ⟨rfl, rfl, rfl, by decide +kernel, rfl, by decide +kernel, by decide +kernel⟩

abbrev s_heights_at : Stmt := topS 29
theorem sc_heights_at : FnScope ["lines", "spot", "x", "y", "w", "a", "b", "c"] ["lines", "spot"] (defScope s_heights_at) := ⟨rfl, rfl, rfl, by decide +kernel, rfl, by decide +kernel, by decide +kernel⟩

def isI : PyData → Bool | .int _ => true | _ => false
def isB : PyData → Bool | .bool _ => true | _ => false
def isT : PyData → Bool | .tuple _ => true | _ => false
theorem da_cls {K : PySem.W.Frag} {H : Hp} {x : V} {d : PyData} (h : Da H x d) : ∃ t, TyX K H x (.type t) ∧ PySem.W.kitOne K (.type t) (.type "int") = some (isI d || isB d) ∧ PySem.W.kitOne K (.type t) (.type "bool") = some (isB d) ∧ PySem.W.kitOne K (.type t) (.type "tuple") = some (isT d) := by
  cases h with
  | non => exact ⟨"NoneType", .base .non, (show PySem.W.kitOne K (.type "NoneType") (.type "int") = some false from kit_ty (by decide +kernel)), (show PySem.W.kitOne K (.type "NoneType") (.type "bool") = some false from kit_ty (by decide +kernel)), (show PySem.W.kitOne K (.type "NoneType") (.type "tuple") = some false from kit_ty (by decide +kernel))⟩
  | bl b => exact ⟨"bool", .base (.bl b), (show PySem.W.kitOne K (.type "bool") (.type "int") = some true from kit_ty (by decide +kernel)), (show PySem.W.kitOne K (.type "bool") (.type "bool") = some true from kit_ty (by decide +kernel)), (show PySem.W.kitOne K (.type "bool") (.type "tuple") = some false from kit_ty (by decide +kernel))⟩
  | int i => exact ⟨"int", .base (.int i), (show PySem.W.kitOne K (.type "int") (.type "int") = some true from kit_ty (by decide +kernel)), (show PySem.W.kitOne K (.type "int") (.type "bool") = some false from kit_ty (by decide +kernel)), (show PySem.W.kitOne K (.type "int") (.type "tuple") = some false from kit_ty (by decide +kernel))⟩
  | str y => exact ⟨"str", .base (.str y), (show PySem.W.kitOne K (.type "str") (.type "int") = some false from kit_ty (by decide +kernel)), (show PySem.W.kitOne K (.type "str") (.type "bool") = some false from kit_ty (by decide +kernel)), (show PySem.W.kitOne K (.type "str") (.type "tuple") = some false from kit_ty (by decide +kernel))⟩
  | lst e n t => exact ⟨"list", .base (.lst e), (show PySem.W.kitOne K (.type "list") (.type "int") = some false from kit_ty (by decide +kernel)), (show PySem.W.kitOne K (.type "list") (.type "bool") = some false from kit_ty (by decide +kernel)), (show PySem.W.kitOne K (.type "list") (.type "tuple") = some false from kit_ty (by decide +kernel))⟩
  | tup e t => exact ⟨"tuple", .base (.tup e), (show PySem.W.kitOne K (.type "tuple") (.type "int") = some false from kit_ty (by decide +kernel)), (show PySem.W.kitOne K (.type "tuple") (.type "bool") = some false from kit_ty (by decide +kernel)), (show PySem.W.kitOne K (.type "tuple") (.type "tuple") = some true from kit_ty (by decide +kernel))⟩
  | dct e t => exact ⟨"dict", .base (.dK e), (show PySem.W.kitOne K (.type "dict") (.type "int") = some false from kit_ty (by decide +kernel)), (show PySem.W.kitOne K (.type "dict") (.type "bool") = some false from kit_ty (by decide +kernel)), (show PySem.W.kitOne K (.type "dict") (.type "tuple") = some false from kit_ty (by decide +kernel))⟩
theorem daAll_at {H : Hp} : ∀ {vs : List V} {ds : List PyData}, DaAll H vs ds → ∀ {i : Nat} {v : V}, vs[i]? = some v → ∃ d, ds[i]? = some d ∧ Da H v d
  | _, _, .nil, _, _, e => by simp at e
  | _, _, .cons h t, 0, _, e => by cases e; exact ⟨_, rfl, h⟩
  | _, _, .cons h t, i + 1, _, e => daAll_at t (by simpa using e)
def nearB (i : Int) : Bool := decide ((if i < 0 then -i else i) ≤ 999)
def okI : PyData → Bool | .int i => nearB i | _ => false
def corD : PyData → Option (Int × Int) | .tuple [.int x, .int y] => if nearB x && nearB y then some (x, y) else none | _ => none
theorem corD_two {d e : PyData} : (corD (.tuple [d, e])).isSome = (okI d && okI e) := by
  cases d <;> cases e <;> simp [corD, okI]
  split <;> simp_all
theorem corD_len {ds : List PyData} (h : ds.length ≠ 2) : corD (.tuple ds) = none := by
  rcases ds with _ | ⟨a, _ | ⟨b, _ | ⟨c, ds⟩⟩⟩
  · rfl
  · cases a <;> rfl
  · simp at h
  · cases a <;> cases b <;> rfl
theorem corD_not {d : PyData} (h : isT d = false) : corD d = none := by
  cases d <;> first | rfl | cases h
def spCor : Sp := fun vs H Q _ => ∃ v d, vs = [v] ∧ Da H v d ∧ ∀ H', Same H H' → Q (.bl (corD d).isSome) H'
def thru (x y X Y : Int) : List Int := [y - Y, X - x, -((y - Y) * x + (X - x) * y)]
def spThru : Sp := fun vs H Q _ => ∃ x y X Y : Int, vs = [.int x, .int y, .int X, .int Y] ∧ Ib 10 x ∧ Ib 10 y ∧ Ib 10 X ∧ Ib 10 Y ∧ ∀ v H', Same H H' → Pt H' v (thru x y X Y) → Q v H'
def spSpotOf (C CP : Addr) : Sp := fun vs H Q _ => ∃ v X Y k, vs = [v] ∧ PtQ C CP H v X Y ∧ Ib k X.num ∧ Ib k Y.num ∧ Ib k X.den ∧ Ib k Y.den ∧ k ≤ 2000 ∧ ∀ w H', Same H H' → Pt H' w [X.num * Y.den, Y.num * X.den, X.den * Y.den] → Q w H'
def lineV (e : Int × Int × Int) (x y w : Int) : Int := e.1 * x + e.2.1 * y + e.2.2 * w
def spHts : Sp := fun vs H Q _ => ∃ l v us es x y w k, vs = [.ref l, v] ∧ H l = some (.lst us) ∧ Paired (fun u (e : Int × Int × Int) => Pt H u [e.1, e.2.1, e.2.2] ∧ Ib 40 e.1 ∧ Ib 40 e.2.1 ∧ Ib 40 e.2.2) us es ∧ us.length ≤ 100 ∧ Pt H v [x, y, w] ∧ Ib k x ∧ Ib k y ∧ Ib k w ∧ k ≤ 2000 ∧
  ∀ m H', Same H H' → H' m = some (.lst (es.map fun e => V.int (lineV e x y w))) → Q (.ref m) H'
def eds (ps : List (Int × Int)) : List ((Int × Int) × (Int × Int)) := ps.zip (ps.drop 1 ++ ps.take 1)
abbrev Ed (H : Hp) (v : V) (e : (Int × Int) × (Int × Int)) : Prop := LineAt H v e.1.1 e.1.2 e.2.1 e.2.2
abbrev Pls (H : Hp) (vs : List V) (ps : List (Int × Int)) : Prop := Paired (fun v x => Pt H v [x.1, x.2]) vs ps
def spWith : Sp := fun vs H Q _ => ∃ t us ps, vs = [.ref t] ∧ H t = some (.tup us) ∧ Pls H us ps ∧ 1 ≤ us.length ∧ us.length ≤ 8 ∧ ∀ l ws H', Same H H' → H' l = some (.lst ws) → Paired (Ed H') ws (eds ps) → Q (.ref l) H'
def bdE (e : (Int × Int) × (Int × Int)) : Int × Int × Int := (e.1.2 - e.2.2, e.2.1 - e.1.1, -((e.1.2 - e.2.2) * e.1.1 + (e.2.1 - e.1.1) * e.1.2))
def spBord : Sp := fun vs H Q _ => ∃ t us ps, vs = [.ref t] ∧ H t = some (.tup us) ∧ Pls H us ps ∧ (∀ x ∈ ps, Nr x) ∧ 1 ≤ us.length ∧ us.length ≤ 8 ∧ ∀ l ws H', Same H H' → H' l = some (.lst ws) → Paired (fun u (e : Int × Int × Int) => Pt H' u [e.1, e.2.1, e.2.2]) ws ((eds ps).map bdE) → Q (.ref l) H'
def leftB (e : (Int × Int) × (Int × Int)) (x : Int × Int) : Bool := decide (0 < lineV (bdE e) x.1 x.2 1)
/-- the edge has all corners but two to its left -/
def edgeB (ps : List (Int × Int)) (e : (Int × Int) × (Int × Int)) : Bool := (ps.filter (leftB e)).length == ps.length - 2
def goesB (ps : List (Int × Int)) : Bool := (eds ps).all (edgeB ps)
def spGoes : Sp := fun vs H Q _ => ∃ t l us ws ps, vs = [.ref t, .ref l] ∧ H t = some (.tup us) ∧ Pls H us ps ∧ (∀ x ∈ ps, Nr x) ∧ 3 ≤ us.length ∧ us.length ≤ 8 ∧ H l = some (.lst ws) ∧ Paired (fun u (e : Int × Int × Int) => Pt H u [e.1, e.2.1, e.2.2]) ws ((eds ps).map bdE) ∧ ∀ H', Same H H' → Q (.bl (goesB ps)) H'
section
variable {P : Program} {w : World} {K : PySem.W.Frag} {mg : Str → Option Value} {base : Heap} {a : Ad}
theorem ok__is_corner {fd : FuncData} (F : Fun K "_is_corner" "_is_corner" s__is_corner a._is_corner fd) (T : Txt K mg a)
    {fd_is_integer : FuncData} (G_is_integer : FnOk P w K mg base CX0 1 a.is_integer fd_is_integer ["value"] (spIsInt K)) (b_is_integer : Binds K fd_is_integer ["value"] []) :
    FnOk P w K mg base CX0 2 a._is_corner fd ["value"] spCor := by
  refine F.ok sc__is_corner (fun vs H Q E h => ?len) (fun cdv A outer s H vs Q E hr h => ⟨_,
      (pss_one (ps_ret (pe_and (pe_callB call_isi (by rfl) T.n_isinstance (by decide +kernel) (pa_cons (pv 0) (pa_cons (pe_bltn (v := .ty "tuple") (u := .type "tuple") (by rfl) T.n_tuple (by decide +kernel) rfl) pa_nil))) (pe_and (pe_cmpR op_eq (pe_callB call_len_seq (by rfl) T.n_len (by decide +kernel) (pa_cons (pv 0) pa_nil)) pe_int (nomark _)) (pe_one (pe_callB (cr_all rfl) (by rfl) T.n_all (by decide +kernel) (pa_cons (pe_lc (own := [("number", 1)]) (g := gName 1) (tt := tYes) rfl sc__is_corner.nd (pi_tup (pv 0)) (blkOk_by (own := [("number", 1)]) (N := ["value", "number"]) (sc := defScope s__is_corner) (by decide +kernel)) (fun _ _ _ _ _ => (pg_name (i := 1) sc__is_corner.nd rfl (Or.inl rfl))) (fun _ _ _ _ _ => pts_nil) (fun _ _ _ _ _ => (pe_and (pe_call G_is_integer (hr.mono (by omega)) (by rfl) T.g_is_integer T.k_is_integer b_is_integer .nil pass0 (pa_cons (pv 1) pa_nil)) (pe_one (pe_cmpR op_le (pe_callB call_abs (by rfl) T.n_abs (by decide +kernel) (pa_cons (pv 1) pa_nil)) (pe_glob (v := .int 999) (by rfl) T.g_FAR.choose_spec ⟨_, rfl⟩) (nomark _)))))) pa_nil))))))), ?body⟩)
  case len => obtain ⟨v, d, rfl, _⟩ := h; rfl
  case body =>
    obtain ⟨v, d, rfl, hd, q⟩ := h
    obtain ⟨t, ty, _, _, k3⟩ := da_cls (K := K) hd
    refine ⟨_, rfl, _, _, _, _, isT d, rfl, .ty _, ty, k3, isT d, rfl, ?_⟩
    cases ht : isT d with
    | false =>
      have z := q H (Same.refl _)
      rw [corD_not ht] at z
      exact iteF z
    | true =>
      obtain ⟨p, xs, ds, rfl, rfl, hp, hda⟩ : ∃ p xs ds, v = .ref p ∧ d = .tuple ds ∧ H p = some (.tup xs) ∧ DaAll H xs ds := by
        cases hd with
        | tup e t => exact ⟨_, _, _, rfl, rfl, e, t⟩
        | _ => cases ht
      have hl := hda.length
      refine iteT ⟨_, rfl, p, xs, rfl, .inr (SqT.of hp), rfl, _, rfl, ?_⟩
      by_cases h2 : xs.length = 2
      · obtain ⟨v1, v2, rfl⟩ : ∃ v1 v2, xs = [v1, v2] := by
          rcases xs with _ | ⟨a1, _ | ⟨a2, _ | ⟨a3, xs⟩⟩⟩ <;> simp at h2
          exact ⟨_, _, rfl⟩
        obtain ⟨d1, d2, rfl⟩ : ∃ v1 v2, ds = [v1, v2] := by
          rcases ds with _ | ⟨a1, _ | ⟨a2, _ | ⟨a3, ds⟩⟩⟩ <;> simp at hl
          exact ⟨_, _, rfl⟩
        have hdr := hda
        refine iteT ⟨_, rfl, p, rfl, ⟨_, SqT.of hp⟩, fun D nD => lc_valW walk_tup (fun i => .bl (okI (([d1, d2][i]?).getD .none))) nD (fun H' S => SqT.of (S _ _ hp)) (by show 2 < sizeLine; rw [sizeLine_eq]; omega) ?he ?hd⟩
        case he =>
          rintro i x H5 H6 Q' N hi S ⟨rfl, hx⟩ qy
          obtain ⟨e, he, hde⟩ := daAll_at hdr hx
          have hde := hde.same S
          obtain ⟨t', ty', k1', k2', _⟩ := da_cls (K := K) hde
          rw [he] at qy
          have qy : ∀ H3, Same H6 H3 → Q' (.bl (okI e)) H3 := qy
          refine ⟨rfl, yesI ⟨_, rfl, x, _, _, _, rfl, ty', k1', k2', _, rfl, ?_⟩⟩
          cases hde with
          | int i =>
            refine iteT ⟨_, rfl, i, rfl, _, _, rfl, rfl, ?_⟩
            exact qy _ (Same.refl _)
          | _ => exact iteF (qy _ (Same.refl _))
        case hd =>
          intro H5 S5 hD
          refine ⟨D, (List.range 2).map fun i => okI (([d1, d2][i]?).getD .none), rfl, SqL.of hD, ?_⟩
          have z := q H5 S5
          rw [corD_two] at z
          have e : ((List.range 2).map fun i => okI (([d1, d2][i]?).getD .none)).all id = (okI d1 && okI d2) := by
            show (okI d1 && (okI d2 && true)) = _
            rw [Bool.and_true]
          rw [e]
          exact z
      · have z := q H (Same.refl _)
        rw [corD_len (by omega)] at z
        refine ite2 (fun c => absurd ?_ h2) (fun _ => z)
        have := of_decide_eq_true c
        injection this
        omega
theorem ok_line_through {fd : FuncData} (F : Fun K "line_through" "line_through" s_line_through a.line_through fd) (T : Txt K mg a) :
    FnOk P w K mg base CX0 1 a.line_through fd ["x", "y", "to_x", "to_y"] spThru := by
  refine F.ok sc_line_through (fun vs H Q E h => ?len) (fun cdv A outer s H vs Q E hr h => ⟨_,
      (pss_cons (ps_par (i := 4) (j := 5) (by rfl) sc_line_through.nd rfl rfl (by decide) rfl rfl (pa_cons (pe_op op_sub (pv 1) (pv 3)) (pa_cons (pe_op op_sub (pv 2) (pv 0)) pa_nil)) (by rfl))
      (pss_one (ps_ret (pe_tup (pa_cons (pv 4) (pa_cons (pv 5) (pa_cons (pe_un un_neg (pe_op op_add (pe_op op_mulW (pv 4) (pv 0)) (pe_op op_mulW (pv 5) (pv 1)))) pa_nil))))))), ?body⟩)
  case len => obtain ⟨x, y, X, Y, rfl, _⟩ := h; rfl
  case body =>
    obtain ⟨x, y, X, Y, rfl, ix, iy, iX, iY, q⟩ := h
    refine ⟨_, rfl, _, rfl, _, _, rfl, rfl, _, rfl, _, rfl, _, _, rfl, rfl, _, _, rfl, ?_⟩
    refine ⟨_, rfl, _, rfl, _, rfl, _, rfl, _, _, rfl, rfl, (iy.sub iY).cw ix (by omega) (by omega), _, rfl, _, rfl, _, _, rfl, rfl, (iX.sub ix).cw iy (by omega) (by omega), _, _, rfl, rfl, _, rfl, (by show 3 ≤ sizeLine; decide), fun o no => ?_⟩
    exact q _ _ (same_new no) ⟨o, rfl, upd_same⟩
theorem ok_spot_of {fd : FuncData} (F : Fun K "spot_of" "spot_of" s_spot_of a.spot_of fd) (T : Txt K mg a) :
    FnOk P w K mg base CX0 1 a.spot_of fd ["point"] (spSpotOf a.Ratio a.Point) := by
  refine F.ok sc_spot_of (fun vs H Q E h => ?len) (fun cdv A outer s H vs Q E hr h => ⟨_,
      (pss_cons (ps_par (i := 1) (j := 2) (by rfl) sc_spot_of.nd rfl rfl (by decide) rfl rfl (pa_cons (pe_fld (pv 0) rfl) (pa_cons (pe_fld (pv 0) rfl) pa_nil)) (by rfl))
      (pss_one (ps_ret (pe_tup (pa_cons (pe_op op_mulW (pe_fld (pv 1) rfl) (pe_fld (pv 2) rfl)) (pa_cons (pe_op op_mulW (pe_fld (pv 2) rfl) (pe_fld (pv 1) rfl)) (pa_cons (pe_op op_mulW (pe_fld (pv 1) rfl) (pe_fld (pv 2) rfl)) pa_nil))))))), ?body⟩)
  case len => obtain ⟨v, X, Y, k, rfl, _⟩ := h; rfl
  case body =>
    obtain ⟨v, X, Y, k, rfl, hv, i1, i2, i3, i4, hk, q⟩ := h
    obtain ⟨p1, e1, x1, y1, rfl, h1, ⟨a1, d1, rfl, hx⟩, ⟨b1, f1, rfl, hy⟩⟩ := hv
    refine ⟨_, rfl, _, _, _, _, _, rfl, h1, T.clP, T.nX, rfl, _, rfl, _, _, _, _, _, rfl, h1, T.clP, T.nY, rfl, _, _, rfl, ?_⟩
    refine ⟨_, rfl, _, _, _, _, _, rfl, hx, T.cl, T.nN, rfl, _, rfl, _, _, _, _, _, rfl, hy, T.cl, T.nU, rfl, _, _, rfl, rfl, i1.cw i4 (by omega) (by omega), ?_⟩
    refine ⟨_, rfl, _, _, _, _, _, rfl, hy, T.cl, T.nN, rfl, _, rfl, _, _, _, _, _, rfl, hx, T.cl, T.nU, rfl, _, _, rfl, rfl, i2.cw i3 (by omega) (by omega), ?_⟩
    refine ⟨_, rfl, _, _, _, _, _, rfl, hx, T.cl, T.nU, rfl, _, rfl, _, _, _, _, _, rfl, hy, T.cl, T.nU, rfl, _, _, rfl, rfl, i3.cw i4 (by omega) (by omega), (by show 3 ≤ sizeLine; decide), fun o no => ?_⟩
    exact q _ _ (same_new no) ⟨o, rfl, upd_same⟩
theorem ok_heights_at {fd : FuncData} (F : Fun K "heights_at" "heights_at" s_heights_at a.heights_at fd) (T : Txt K mg a) :
    FnOk P w K mg base CX0 1 a.heights_at fd ["lines", "spot"] spHts := by
  refine F.ok sc_heights_at (fun vs H Q E h => ?len) (fun cdv A outer s H vs Q E hr h => ⟨_,
      (pss_cons (ps_asg (pv 1) (pg_tup rfl (pgs_cons (pg_name (i := 2) sc_heights_at.nd rfl (Or.inr rfl)) (pgs_cons (pg_name (i := 3) sc_heights_at.nd rfl (Or.inr rfl)) (pgs_cons (pg_name (i := 4) sc_heights_at.nd rfl (Or.inr rfl)) pgs_nil)))))
      (pss_one (ps_ret (pe_lc (own := [("a", 5), ("b", 6), ("c", 7)]) (g := (gTup K 3 (gCons (gName 5) (gCons (gName 6) (gCons (gName 7) gNil))))) (tt := tYes) rfl sc_heights_at.nd (pi_list (pv 0)) (blkOk_by (own := [("a", 5), ("b", 6), ("c", 7)]) (N := ["lines", "spot", "x", "y", "w", "a", "b", "c"]) (sc := defScope s_heights_at) (by decide +kernel)) (fun _ _ _ _ _ => (pg_tup rfl (pgs_cons (pg_name (i := 5) sc_heights_at.nd rfl (Or.inl rfl) (hf := Or.inr rfl)) (pgs_cons (pg_name (i := 6) sc_heights_at.nd rfl (Or.inl rfl) (hf := Or.inr rfl)) (pgs_cons (pg_name (i := 7) sc_heights_at.nd rfl (Or.inl rfl) (hf := Or.inr rfl)) pgs_nil))))) (fun _ _ _ _ _ => pts_nil) (fun _ _ _ _ _ => (pe_op op_add (pe_op op_add (pe_op op_mulW (pv 5) (pv 2)) (pe_op op_mulW (pv 6) (pv 3))) (pe_op op_mulW (pv 7) (pv 4)))))))), ?body⟩)
  case len => obtain ⟨l, v, us, es, x, y, w, k, rfl, _⟩ := h; rfl
  case body =>
    obtain ⟨l, v, us, es, x, y, w', k, rfl, hl, hp, hz, ⟨t, rfl, ht⟩, i1, i2, i3, hk, q⟩ := h
    have hsz := sizeLine_eq
    refine ⟨_, rfl, t, _, rfl, SqT.of ht, rfl, _, _, rfl, _, _, rfl, _, _, rfl, rfl, ?_⟩
    refine ⟨_, rfl, l, rfl, ⟨_, SqL.of hl⟩, fun D nD => lc_relW walk_list (fun i z _ => (es.map fun e => V.int (lineV e x y w'))[i]? = some z) (fun _ _ _ _ _ h => h) nD (fun H' S => S.seq (SqL.of hl)) (by omega) ?he ?hd⟩
    case he =>
      rintro i u H5 H6 Q' N hi S ⟨rfl, hx⟩ qy
      obtain ⟨e, he, ⟨o, rfl, ho⟩, j1, j2, j3⟩ := paired_at hp hx
      refine ⟨o, _, rfl, SqT.of (S _ _ ho), rfl, _, _, rfl, _, _, rfl, _, _, rfl, rfl, rfl, yesI ?_⟩
      refine ⟨_, rfl, _, rfl, _, _, rfl, rfl, j1.cw i1 (by omega) (by omega), _, rfl, _, rfl, _, _, rfl, rfl, j2.cw i2 (by omega) (by omega), _, _, rfl, rfl, _, rfl, _, rfl, _, _, rfl, rfl, j3.cw i3 (by omega) (by omega), _, _, rfl, rfl, ?_⟩
      exact qy _ _ (Same.refl _) (by rw [List.getElem?_map, he]; rfl)
    case hd =>
      intro ys H5 S5 hD hly hys
      have e : ys = es.map fun e => V.int (lineV e x y w') := List.ext_getElem? fun i => by
        have hlen := hp.length
        rcases Nat.lt_or_ge i ys.length with h | h
        · rw [List.getElem?_eq_getElem h, ← hys i _ (List.getElem?_eq_getElem h)]
        · rw [List.getElem?_eq_none h, List.getElem?_eq_none (by rw [List.length_map]; omega)]
      exact q D H5 S5 (e ▸ hD)
end
end My

namespace My
open PySem PySem.Spec PyProof.Rows L2 G
abbrev s__with_next : Stmt := topS 33
theorem sc__with_next : FnScope ["corners", "at", "corner"] ["corners"] (defScope s__with_next) := ⟨rfl, rfl, rfl, by decide +kernel, rfl, by decide +kernel, by decide +kernel⟩

abbrev s__borders : Stmt := topS 34
theorem sc__borders : FnScope ["corners", "x", "y", "to_x", "to_y"] ["corners"] (defScope s__borders) := ⟨rfl, rfl, rfl, by decide +kernel, rfl, by decide +kernel, by decide +kernel⟩

abbrev s__goes_round_once : Stmt := topS 35
theorem sc__goes_round_once : FnScope ["corners", "borders", "border", "to_the_left", "x", "y"] ["corners", "borders"] (defScope s__goes_round_once) := ⟨rfl, rfl, rfl, by decide +kernel, rfl, by decide +kernel, by decide +kernel⟩

theorem atI_neg {α : Type} {xs : List α} {j : Nat} {v : α} {i : Int} (e : i = (j : Int) - xs.length) (h : xs[j]? = some v) : atI xs i = some v := by
  have hj : j < xs.length := (List.getElem?_eq_some_iff.mp h).1
  have z : ixN xs.length i = some j := by
    unfold ixN
    rw [if_neg (by omega), if_pos (by omega), show (i + xs.length).toNat = j by omega]
  unfold atI
  rw [z]
  exact h
theorem eds_at {ps : List (Int × Int)} {i : Nat} {x y : Int × Int} (hx : ps[i]? = some x) (hy : (if i + 1 < ps.length then ps[i + 1]? else ps[0]?) = some y) : (eds ps)[i]? = some (x, y) := by
  have hi : i < ps.length := (List.getElem?_eq_some_iff.mp hx).1
  unfold eds
  rw [List.getElem?_zip_eq_some]
  refine ⟨hx, ?_⟩
  by_cases h : i + 1 < ps.length
  · rw [if_pos h] at hy
    rw [List.getElem?_append_left (by rw [List.length_drop]; omega), List.getElem?_drop, Nat.add_comm 1 i]
    exact hy
  · rw [if_neg h] at hy
    rw [List.getElem?_append_right (by rw [List.length_drop]; omega), List.length_drop, show i - (ps.length - 1) = 0 by omega, List.getElem?_take_of_lt (by decide)]
    exact hy
theorem eds_len (ps : List (Int × Int)) : (eds ps).length = ps.length := by
  unfold eds
  rw [List.length_zip, List.length_append, List.length_drop, List.length_take]
  omega
theorem filt_len {α : Type} (p : α → Bool) : ∀ (ps : List α), ((List.range ps.length).filter fun j => (ps[j]?).elim false p).length = (ps.filter p).length
  | [] => rfl
  | x :: ps => by
    have h := filt_len p ps
    have e : ((fun j => ((x :: ps)[j]?).elim false p) ∘ Nat.succ) = fun j => (ps[j]?).elim false p := by
      funext j
      simp
    rw [List.length_cons, List.range_succ_eq_map]
    by_cases c : p x = true
    · rw [List.filter_cons_of_pos (by exact c), List.filter_cons_of_pos c, List.length_cons, List.length_cons, List.filter_map, List.length_map, e, h]
    · rw [List.filter_cons_of_neg (by exact c), List.filter_cons_of_neg c, List.filter_map, List.length_map, e, h]
theorem eds_mem {ps : List (Int × Int)} {e : (Int × Int) × (Int × Int)} (he' : e ∈ eds ps) : e.1 ∈ ps ∧ e.2 ∈ ps := by
  unfold eds at he'
  obtain ⟨m1, m2⟩ := List.of_mem_zip (a := e.1) (b := e.2) he'
  refine ⟨m1, ?_⟩
  rcases List.mem_append.mp m2 with h | h
  · exact List.mem_of_mem_drop h
  · exact List.mem_of_mem_take h
theorem bd_ib {e : (Int × Int) × (Int × Int)} (h1 : Nr e.1) (h2 : Nr e.2) : Ib 40 (bdE e).1 ∧ Ib 40 (bdE e).2.1 ∧ Ib 40 (bdE e).2.2 := by
  obtain ⟨a1, a2⟩ := h1.ib
  obtain ⟨a3, a4⟩ := h2.ib
  refine ⟨(a2.sub a4).mono (by omega), (a3.sub a1).mono (by omega), ?_⟩
  exact ((((a2.sub a4).mul a1).add ((a3.sub a1).mul a2)).neg).mono (by omega)
section
variable {P : Program} {w : World} {K : PySem.W.Frag} {mg : Str → Option Value} {base : Heap} {a : Ad}
theorem ok__with_next {fd : FuncData} (F : Fun K "_with_next" "_with_next" s__with_next a._with_next fd) (T : Txt K mg a) :
    FnOk P w K mg base CX0 1 a._with_next fd ["corners"] spWith := by
  refine F.ok sc__with_next (fun vs H Q E h => ?len) (fun cdv A outer s H vs Q E hr h => ⟨_,
      (pss_one (ps_ret (pe_lc (own := [("at", 1), ("corner", 2)]) (g := (gTup K 2 (gCons (gName 1) (gCons (gName 2) gNil)))) (tt := tYes) rfl sc__with_next.nd (pi_enumT (by rfl) T.n_enumerate (pa_cons (pv 0) pa_nil)) (blkOk_by (own := [("at", 1), ("corner", 2)]) (N := ["corners", "at", "corner"]) (sc := defScope s__with_next) (by decide +kernel)) (fun _ _ _ _ _ => (pg_tup rfl (pgs_cons (pg_name (i := 1) sc__with_next.nd rfl (Or.inl rfl) (hf := Or.inr rfl)) (pgs_cons (pg_name (i := 2) sc__with_next.nd rfl (Or.inl rfl) (hf := Or.inr rfl)) pgs_nil)))) (fun _ _ _ _ _ => pts_nil) (fun _ _ _ _ _ => (pe_tup (pa_cons (pv 2) (pa_cons (pe_ix (show IxR _ (rIxT K) from ix_tup) (pv 0) (pe_op op_sub (pe_op op_add (pv 1) pe_int) (pe_callB (show CallR _ (.builtin "len") (G.rLenQ K) from call_len_seq) (by rfl) T.n_len (by decide +kernel) (pa_cons (pv 0) pa_nil))) (fun _ _ => rfl)) pa_nil))))))), ?body⟩)
  case len => obtain ⟨t, us, ps, rfl, _⟩ := h; rfl
  case body =>
    obtain ⟨t, us, ps, rfl, ht, hp, h1, h8, q⟩ := h
    have hsz := sizeLine_eq
    have hlen := hp.length
    refine ⟨_, rfl, t, us, rfl, SqT.of ht, fun D nD => lc_relW walk_e (fun i z H' => ∃ e, (eds ps)[i]? = some e ∧ Ed H' z e) ?hR nD (fun H' S => SqT.of (S _ _ ht)) (by omega) ?he ?hd⟩
    case hR =>
      rintro i z H5 H6 nl ⟨e, he, t', q', r', rfl, f1, f2, f3⟩
      exact ⟨e, he, t', q', r', rfl, nl _ _ f1 (fun _ z => nomatch z), nl _ _ f2 (fun _ z => nomatch z), nl _ _ f3 (fun _ z => nomatch z)⟩
    case he =>
      rintro i x H5 H6 Q' N hi S ⟨T1, y0, y, rfl, nT, rfl, ex, ey⟩ qy
      cases ex
      obtain ⟨A1, hA, q1, rfl, hq1⟩ := paired_at hp ey
      have ST := same_new (o := .tup [.int (0 + (i : Nat)), .ref q1]) nT
      refine ⟨T1, _, rfl, SqT.of upd_same, rfl, _, _, rfl, _, _, rfl, rfl, rfl, yesI ?_⟩
      obtain ⟨v, hv, hv2⟩ : ∃ v, atI us (((0 : Int) + (i : Nat)) + 1 - (us.length : Nat)) = some v ∧ (if i + 1 < us.length then us[i + 1]? else us[0]?) = some v := by
        by_cases h : i + 1 < us.length
        · exact ⟨us[i + 1], atI_neg (j := i + 1) (by omega) (List.getElem?_eq_getElem h), by rw [if_pos h, List.getElem?_eq_getElem h]⟩
        · refine ⟨us[0], ?_, by rw [if_neg h, List.getElem?_eq_getElem]⟩
          have e0 : ((0 : Int) + (i : Nat)) + 1 - (us.length : Nat) = ((0 : Nat) : Int) := by omega
          rw [e0]
          exact atI_nat (List.getElem?_eq_getElem (by omega))
      refine ⟨_, rfl, _, rfl, _, rfl, _, _, rfl, rfl, _, rfl, t, us, rfl, .inr (SqT.of (ST _ _ (S _ _ ht))), _, _, rfl, rfl, t, us, _, v, rfl, rfl, SqT.of (ST _ _ (S _ _ ht)), hv, (by show 2 ≤ sizeLine; decide), fun o no => ?_⟩
      have So := same_new (o := .tup [.ref q1, v]) no
      obtain ⟨B1, hB, q2, rfl, hq2⟩ : ∃ B1, (if i + 1 < ps.length then ps[i + 1]? else ps[0]?) = some B1 ∧ Pt H v [B1.1, B1.2] := by
        rw [← hlen]
        by_cases h : i + 1 < us.length
        · rw [if_pos h] at hv2 ⊢
          exact paired_at hp hv2
        · rw [if_neg h] at hv2 ⊢
          exact paired_at hp hv2
      exact qy _ _ (ST.trans So) ⟨(A1, B1), eds_at hA hB, o, q1, q2, rfl, upd_same, So _ _ (ST _ _ (S _ _ hq1)), So _ _ (ST _ _ (S _ _ hq2))⟩
    case hd =>
      intro ys H5 S5 hD hly hys
      refine q D ys H5 S5 hD (paired_of (by rw [eds_len]; omega) fun i v x e1 e2 => ?_)
      obtain ⟨e, he, h⟩ := hys i v e1
      rw [he] at e2
      cases e2
      exact h
theorem ok__borders {fd : FuncData} (F : Fun K "_borders" "_borders" s__borders a._borders fd) (T : Txt K mg a)
    {fd__with_next : FuncData} (G__with_next : FnOk P w K mg base CX0 1 a._with_next fd__with_next ["corners"] spWith) (b__with_next : Binds K fd__with_next ["corners"] [])
    {fd_line_through : FuncData} (G_line_through : FnOk P w K mg base CX0 1 a.line_through fd_line_through ["x", "y", "to_x", "to_y"] spThru) (b_line_through : Binds K fd_line_through ["x", "y", "to_x", "to_y"] []) :
    FnOk P w K mg base CX0 2 a._borders fd ["corners"] spBord := by
  refine F.ok sc__borders (fun vs H Q E h => ?len) (fun cdv A outer s H vs Q E hr h => ⟨_,
      (pss_one (ps_ret (pe_lc (own := [("x", 1), ("y", 2), ("to_x", 3), ("to_y", 4)]) (g := (gTup K 2 (gCons (gTup K 2 (gCons (gName 1) (gCons (gName 2) gNil))) (gCons (gTup K 2 (gCons (gName 3) (gCons (gName 4) gNil))) gNil)))) (tt := tYes) rfl sc__borders.nd (pi_list (pe_call G__with_next (hr.mono (by omega)) (by rfl) T.g__with_next T.k__with_next b__with_next .nil pass0 (pa_cons (pv 0) pa_nil))) (blkOk_by (own := [("x", 1), ("y", 2), ("to_x", 3), ("to_y", 4)]) (N := ["corners", "x", "y", "to_x", "to_y"]) (sc := defScope s__borders) (by decide +kernel)) (fun _ _ _ _ _ => (pg_tup rfl (pgs_cons (pg_tup rfl (pgs_cons (pg_name (i := 1) sc__borders.nd rfl (Or.inl rfl) (hf := Or.inr rfl)) (pgs_cons (pg_name (i := 2) sc__borders.nd rfl (Or.inl rfl) (hf := Or.inr rfl)) pgs_nil))) (pgs_cons (pg_tup rfl (pgs_cons (pg_name (i := 3) sc__borders.nd rfl (Or.inl rfl) (hf := Or.inr rfl)) (pgs_cons (pg_name (i := 4) sc__borders.nd rfl (Or.inl rfl) (hf := Or.inr rfl)) pgs_nil))) pgs_nil)))) (fun _ _ _ _ _ => pts_nil) (fun _ _ _ _ _ => (pe_call G_line_through (hr.mono (by omega)) (by rfl) T.g_line_through T.k_line_through b_line_through .nil pass0 (pa_cons (pv 1) (pa_cons (pv 2) (pa_cons (pv 3) (pa_cons (pv 4) pa_nil))))))))), ?body⟩)
  case len => obtain ⟨t, us, ps, rfl, _⟩ := h; rfl
  case body =>
    obtain ⟨t, us, ps, rfl, ht, hp, nr, h1, h8, q⟩ := h
    have hsz := sizeLine_eq
    have hlen := hp.length
    refine ⟨_, rfl, t, us, ps, rfl, ht, hp, h1, h8, fun l ws H1 S1 hl hw => ⟨l, rfl, ⟨_, SqL.of hl⟩, fun D nD => ?_⟩⟩
    have hwl := hw.length
    rw [eds_len] at hwl
    refine lc_relW walk_list (fun i z H' => ∃ e, ((eds ps).map bdE)[i]? = some e ∧ Pt H' z [e.1, e.2.1, e.2.2]) ?hR nD (fun H' S => S.seq (SqL.of hl)) (by omega) ?he ?hd
    case hR =>
      rintro i z H5 H6 nl ⟨e, he, t', rfl, f1⟩
      exact ⟨e, he, t', rfl, nl _ _ f1 (fun _ z => nomatch z)⟩
    case he =>
      rintro i x H5 H6 Q' N hi S ⟨rfl, hx⟩ qy
      obtain ⟨e, he, t', q', r', rfl, f1, f2, f3⟩ := paired_at hw hx
      have f1 := S _ _ f1
      have f2 := S _ _ f2
      have f3 := S _ _ f3
      refine ⟨t', _, rfl, SqT.of f1, rfl, _, _, rfl, q', _, rfl, SqT.of f2, rfl, _, _, rfl, _, _, rfl, rfl, _, _, rfl, r', _, rfl, SqT.of f3, rfl, _, _, rfl, _, _, rfl, rfl, rfl, rfl, yesI ?_⟩
      have m : e.1 ∈ ps ∧ e.2 ∈ ps := by
        have he' := List.mem_of_getElem? he
        unfold eds at he'
        obtain ⟨m1, m2⟩ := List.of_mem_zip (a := e.1) (b := e.2) he'
        refine ⟨m1, ?_⟩
        rcases List.mem_append.mp m2 with h | h
        · exact List.mem_of_mem_drop h
        · exact List.mem_of_mem_take h
      refine ⟨_, rfl, _, rfl, _, rfl, _, rfl, _, _, _, _, rfl, (nr _ m.1).ib.1, (nr _ m.1).ib.2, (nr _ m.2).ib.1, (nr _ m.2).ib.2, fun v H7 S7 hv => ?_⟩
      exact qy _ _ S7 ⟨bdE e, by rw [List.getElem?_map, he]; rfl, hv⟩
    case hd =>
      intro ys H5 S5 hD hly hys
      refine q D ys H5 (S1.trans S5) hD (paired_of (by rw [List.length_map, eds_len]; omega) fun i v x e1 e2 => ?_)
      obtain ⟨e, he, h⟩ := hys i v e1
      rw [he] at e2
      cases e2
      exact h
theorem ok__goes_round_once {fd : FuncData} (F : Fun K "_goes_round_once" "_goes_round_once" s__goes_round_once a._goes_round_once fd) (T : Txt K mg a)
    {fd_heights_at : FuncData} (G_heights_at : FnOk P w K mg base CX0 1 a.heights_at fd_heights_at ["lines", "spot"] spHts) (b_heights_at : Binds K fd_heights_at ["lines", "spot"] []) :
    FnOk P w K mg base CX0 2 a._goes_round_once fd ["corners", "borders"] spGoes := by
  refine F.ok sc__goes_round_once (fun vs H Q E h => ?len) (fun cdv A outer s H vs Q E hr h => ⟨_,
      (pss_cons (ps_for PassesOwn.never rfl (pi_list (pv 1)) (pg_name (i := 2) sc__goes_round_once.nd rfl (Or.inr rfl)) (pss_cons (ps_setLc (i := 3) (own := [("x", 4), ("y", 5)]) (g := (gTup K 2 (gCons (gName 4) (gCons (gName 5) gNil)))) (tt := _) rfl sc__goes_round_once.nd rfl rfl (sw_true rfl rfl rfl (by decide +kernel)) (pi_tup (pv 0)) (blkOk_by (own := [("x", 4), ("y", 5)]) (N := ["corners", "borders", "border", "to_the_left", "x", "y"]) (sc := defScope s__goes_round_once) (by decide +kernel)) (fun _ _ _ _ _ => (pg_tup rfl (pgs_cons (pg_name (i := 4) sc__goes_round_once.nd rfl (Or.inl rfl) (hf := Or.inr rfl)) (pgs_cons (pg_name (i := 5) sc__goes_round_once.nd rfl (Or.inl rfl) (hf := Or.inr rfl)) pgs_nil)))) (fun _ _ _ _ _ => (pts_one (pt_cmpR op_gt (pe_ix (show IxR _ (rIxL K) from ix_list) (pe_call G_heights_at (hr.mono (by omega)) (by rfl) T.g_heights_at T.k_heights_at b_heights_at .nil pass0 (pa_cons (pe_lstS (pa_cons (pv 2) pa_nil)) (pa_cons (pe_tup (pa_cons (pv 4) (pa_cons (pv 5) (pa_cons pe_int pa_nil)))) pa_nil))) pe_int (fun _ _ => rfl)) pe_int (nomark _)))) (fun _ _ _ _ _ => (pv 4)))
      (pss_one (ps_if (pt_cmpR op_ne (pe_callB call_len_seq (by rfl) T.n_len (by decide +kernel) (pa_cons (pv 3) pa_nil)) (pe_op op_sub (pe_callB call_len_seq (by rfl) T.n_len (by decide +kernel) (pa_cons (pv 0) pa_nil)) pe_int) (nomark _)) (pss_one (ps_ret pe_bl)) pss_nil))))
      (pss_one (ps_ret pe_bl))), ?body⟩)
  case len => obtain ⟨t, l, us, ws, ps, rfl, _⟩ := h; rfl
  case body =>
    obtain ⟨t, l, us, ws, ps, rfl, ht, hp, nr, h3, h8, hl, hw, q⟩ := h
    have hsz := sizeLine_eq
    have hlen := hp.length
    have hwl := hw.length
    rw [List.length_map, eds_len] at hwl
    refine ⟨_, rfl, l, rfl, ⟨_, SqL.of hl⟩, for_it walk_list (fun i σ H' => Same H H' ∧ (∃ s2 s3, σ = [some (.ref t), some (.ref l), s2, s3, none, none]) ∧ ∀ j e, j < i → (eds ps)[j]? = some e → edgeB ps e = true) ?start (fun i σ H' _ h => h.1.seq (SqL.of hl)) ?turn ?fin⟩
    case start => exact ⟨Same.refl _, ⟨_, _, rfl⟩, fun j e h => by omega⟩
    case turn =>
      rintro i x σ H1 H2 hi ⟨S1, ⟨s2, s3, rfl⟩, gg⟩ ⟨rfl, hx⟩
      obtain ⟨e', he', hxe⟩ := paired_at hw hx
      rw [List.getElem?_map] at he'
      obtain ⟨e, he, rfl⟩ := Option.map_eq_some_iff.mp he'
      obtain ⟨m1, m2⟩ := eds_mem (List.mem_of_getElem? he)
      have bi := bd_ib (nr _ m1) (nr _ m2)
      have hxe := hxe.same S1
      refine ⟨_, rfl, t, rfl, ⟨_, SqT.of (S1 _ _ ht)⟩, fun D nD => lc_testW walk_tup (fun j => (ps[j]?).elim false (leftB e)) (fun j => (ps[j]?).elim V.non fun x => V.int x.1) nD (fun H' S => SqT.of (S _ _ (S1 _ _ ht))) (by omega) ?he ?hd⟩
      case he =>
        rintro j y H5 H6 Q' N hj S5 ⟨rfl, hy⟩ qt qf
        obtain ⟨X, hX, o, rfl, ho⟩ := paired_at hp hy
        rw [hX] at qt qf
        have ho := S5 _ _ (S1 _ _ ho)
        have hxe := hxe.same S5
        refine ⟨o, _, rfl, SqT.of ho, rfl, _, _, rfl, _, _, rfl, rfl, rfl, ?_⟩
        refine ⟨_, rfl, (by show 1 ≤ sizeLine; decide), fun l1 n1 _ => ⟨_, rfl, _, rfl, (by show 3 ≤ sizeLine; decide), fun o1 n2 => ?_⟩⟩
        have Sl := same_new (o := .lst [x]) n1
        have So := same_new (o := .tup [.int X.1, .int X.2, .int 1]) n2
        have nX := (nr X (List.mem_of_getElem? hX)).ib
        refine ⟨l1, .ref o1, [x], [bdE e], X.1, X.2, 1, 10, rfl, So _ _ upd_same, .cons ⟨(hxe.same Sl).same So, bi⟩ .nil, by simp, ⟨o1, rfl, upd_same⟩, nX.1, nX.2, (show (1 : Int).natAbs < 2 ^ 10 by decide), by omega, fun m H7 S7 hm => ?_⟩
        refine ⟨m, _, _, _, rfl, rfl, SqL.of hm, atI_nat (j := 0) rfl, _, _, rfl, rfl, _, rfl, ?_⟩
        refine ite2 (fun c => ⟨_, rfl, qt c _ ((Sl.trans So).trans S7)⟩) (fun c => qf (by rw [← Bool.not_eq_true]; exact c) _ ((Sl.trans So).trans S7))
      case hd =>
        intro H5 S5 hD
        have el : (((List.range us.length).filter fun j => (ps[j]?).elim false (leftB e)).map fun j => (ps[j]?).elim V.non fun x => V.int x.1).length = (ps.filter (leftB e)).length := by
          rw [List.length_map, hlen, filt_len]
        refine ⟨_, rfl, D, _, rfl, .inl (SqL.of hD), _, rfl, t, us, rfl, .inr (SqT.of (S5 _ _ (S1 _ _ ht))), _, _, rfl, rfl, rfl, _, rfl, ite2 (fun c => ?_) (fun c => ?_)⟩
        · have ne : edgeB ps e = false := by
            unfold edgeB
            rw [beq_eq_false_iff_ne]
            intro z
            rw [Bool.not_eq_true', decide_eq_false_iff_not] at c
            apply c
            show V.int _ = V.int ((us.length : Int) - 2)
            rw [el, z]
            congr 1
            omega
          have g : goesB ps = false := by
            unfold goesB
            rw [List.all_eq_false]
            exact ⟨e, List.mem_of_getElem? he, by rw [ne]; exact Bool.false_ne_true⟩
          have z := q H5 (S1.trans S5)
          rw [g] at z
          exact z
        · refine ⟨S1.trans S5, ⟨_, _, rfl⟩, fun j e' hj hj' => ?_⟩
          rcases Nat.lt_or_ge j i with h | h
          · exact gg j e' h hj'
          · have : j = i := by omega
            subst this
            rw [he] at hj'
            cases hj'
            unfold edgeB
            rw [beq_iff_eq]
            apply Classical.byContradiction
            intro z
            apply c
            rw [Bool.not_eq_true', decide_eq_false_iff_not]
            intro w
            apply z
            have w : V.int _ = V.int ((us.length : Int) - 2) := w
            injection w with w
            rw [el] at w
            omega
    case fin =>
      rintro σ H1 ⟨S1, ⟨s2, s3, rfl⟩, gg⟩
      have g : goesB ps = true := by
        unfold goesB
        rw [List.all_eq_true]
        intro e he
        obtain ⟨j, hj⟩ := List.mem_iff_getElem?.mp he
        refine gg j e ?_ hj
        have := (List.getElem?_eq_some_iff.mp hj).1
        rw [eds_len] at this
        omega
      have z := q H1 S1
      rw [g] at z
      exact z
end
end My

namespace My
open PySem PySem.Spec PyProof.Rows L2 G
abbrev s_Land___init__ : Stmt := inClass (topS 36) 0
theorem sc_Land___init__ : FnScope ["self", "corners", "borders", "x", "y", "to_x", "to_y", "corner"] ["self", "corners"] (defScope s_Land___init__) := ⟨rfl, rfl, rfl, by decide +kernel, rfl, by decide +kernel, by decide +kernel⟩

def Told (H : Hp) (v : V) (B : Addr) (E : XK) : Prop := ∀ d H', Same H H' → H' d = some (.xd [("value", v)]) → E (.ref B) (some d) H'
theorem Told.same {H H' : Hp} {v : V} {B : Addr} {E : XK} (S : Same H H') (h : Told H v B E) : Told H' v B E := fun d H1 S1 e => h d H1 (S.trans S1) e
theorem raise_told {H1 : Hp} {C : Addr} {K : PySem.W.Frag} {w : V} {Q : XK} (T : EC K C) (q : ∀ d H', Same H1 H' → H' d = some (.xd [("value", w)]) → Q (.ref C) (some d) H') : ([w] : List V).length ≤ 1000 ∧ ∀ a, H1 a = none → spErrInit K (.ref a :: ([w] ++ [])) (upd H1 a (exo a C none))
    (fun v H2 => v = .non ∧ ∃ (d : Addr) (fs : List (Str × V)), H2 a = some (exo a C (some d)) ∧ H2 d = some (exd d fs) ∧ H1 d = none ∧ Q (.ref C) (some d) (upd (del H2 a) d (.xd fs))) (fun _ _ _ => False) := by
  refine ⟨(by show 1 ≤ 1000; decide), fun e he => ⟨e, C, w, rfl, T.ox, T.nv, upd_same, fun d hd hne => ⟨rfl, d, [("value", w)], upd_same, ?_, ?_, ?_⟩⟩⟩
  · rw [upd_ne hne]; exact upd_same
  · rw [upd_ne hne] at hd
    exact hd
  · refine q d _ (fun b o z => ?_) upd_same
    have nd : b ≠ d := by
      rw [upd_ne hne] at hd
      exact ne_of_none z hd
    have ne : b ≠ e := ne_of_none z he
    rw [upd_ne nd, del_ne ne, upd_ne ne, upd_ne nd, upd_ne ne]
    exact z
def corsD : List PyData → Option (List (Int × Int))
  | [] => some []
  | d :: ds => match corD d, corsD ds with
    | some x, some xs => some (x :: xs)
    | _, _ => none
/-- the corners that make a land of this value, if it is one -/
def landD : PyData → Option (List (Int × Int))
  | .tuple ds => if 3 ≤ ds.length ∧ ds.length ≤ 8 then (match corsD ds with | some ps => if goesB ps then some ps else none | none => none) else none
  | _ => none
abbrev ldFs (v t b : V) : List (Str × V) := [("corners", v), ("edges", t), ("borders", b)]
/-- a Land of these corners, which lie at v -/
def LdQ (a : Ad) (H : Hp) (z v : V) (ps : List (Int × Int)) : Prop := ∃ b dx t bl c us ws bs, z = .ref b ∧ H b = some (.ins a.Land dx (ldFs v (.ref t) (.ref bl))) ∧ v = .ref c ∧ H c = some (.tup us) ∧ Pls H us ps ∧
  H t = some (.tup ws) ∧ Paired (fun u (e : (Int × Int) × (Int × Int)) => LnQ a.Ratio a.Point a.Line H u e.1.1 e.1.2 e.2.1 e.2.2) ws (eds ps) ∧ H bl = some (.lst bs) ∧ Paired (fun u (e : Int × Int × Int) => Pt H u [e.1, e.2.1, e.2.2]) bs ((eds ps).map bdE)
def spLdI (K : PySem.W.Frag) (a : Ad) : Sp := fun vs H Q E => ∃ p dx v d, vs = [.ref p, v] ∧ H p = some (.ins a.Land dx []) ∧ Da H v d ∧ (∀ ps, landD d = some ps → ∀ H', (∀ b o, b ≠ p → H b = some o → H' b = some o) → LdQ a H' (.ref p) v ps → Q .non H') ∧ (landD d = none → Told H v a.BadLand E)
def NotP (K : PySem.W.Frag) (a : Ad) (H : Hp) (v : V) : Prop := ∃ t, TyX K H v t ∧ PySem.W.kitOne K t (.ref a.Point) = some false
/-- the spot lies to the left of each border or on it -/
def inB (ps : List (Int × Int)) (X Y : Rat) : Bool := (eds ps).all fun e => decide (0 ≤ lineV (bdE e) (X.num * Y.den) (Y.num * X.den) (X.den * Y.den))
def spLdC (K : PySem.W.Frag) (a : Ad) : Sp := fun vs H Q _ => ∃ z u v ps, vs = [z, v] ∧ LdQ a H z u ps ∧ (∀ x ∈ ps, Nr x) ∧ ps.length ≤ 8 ∧
  ((∃ X Y k, PtQ a.Ratio a.Point H v X Y ∧ Ib k X.num ∧ Ib k Y.num ∧ Ib k X.den ∧ Ib k Y.den ∧ k ≤ 1000 ∧ ∀ H', Same H H' → Q (.bl (inB ps X Y)) H') ∨ (NotP K a H v ∧ Q (.bl false) H))
def NotL (K : PySem.W.Frag) (a : Ad) (H : Hp) (v : V) : Prop := ∃ t, TyX K H v t ∧ PySem.W.kitOne K t (.ref a.Land) = some false
def spLdE (K : PySem.W.Frag) (a : Ad) : Sp := fun vs H Q _ => ∃ z u v ps, vs = [z, v] ∧ LdQ a H z u ps ∧ ((∃ w qs, LdQ a H v w qs ∧ Q (.bl (decide (ps = qs))) H) ∨ (NotL K a H v ∧ Q (.bl false) H))
theorem corD_at {H : Hp} {v : V} {d : PyData} {x : Int × Int} (h : Da H v d) (c1 : corD d = some x) : Pt H v [x.1, x.2] ∧ Nr x := by
  cases h with
  | tup e0 t0 =>
    cases t0 with
    | nil => cases c1
    | cons g0 t1 => cases t1 with
      | nil => cases g0 <;> cases c1
      | cons g1 t2 => cases t2 with
        | nil =>
          cases g0 <;> cases g1 <;> simp only [corD] at c1 <;> try cases c1
          split at c1
          · rename_i y1 y2 hh
            cases c1
            rw [Bool.and_eq_true] at hh
            refine ⟨⟨_, rfl, e0⟩, ?_⟩
            have n1 := of_decide_eq_true hh.1
            have n2 := of_decide_eq_true hh.2
            unfold Nr
            show (-999 ≤ y1 ∧ y1 ≤ 999) ∧ (-999 ≤ y2 ∧ y2 ≤ 999)
            split at n1 <;> split at n2 <;> omega
          · cases c1
        | cons g2 t3 => cases g0 <;> cases g1 <;> cases c1
  | _ => cases c1
theorem corsD_pls {H : Hp} : ∀ {us : List V} {ds : List PyData} {ps : List (Int × Int)}, DaAll H us ds → corsD ds = some ps → Pls H us ps ∧ ∀ x ∈ ps, Nr x
  | _, _, _, .nil, e => by
    cases e
    exact ⟨.nil, fun x h => nomatch h⟩
  | _, _, ps, .cons (d := d) (ds := ds) h t, e => by
    unfold corsD at e
    cases c1 : corD d with
    | none => rw [c1] at e; cases e
    | some x =>
      cases c2 : corsD ds with
      | none => rw [c1, c2] at e; cases e
      | some xs =>
        rw [c1, c2] at e
        cases e
        obtain ⟨h1, h2⟩ := corsD_pls t c2
        obtain ⟨h3, h4⟩ := corD_at h c1
        exact ⟨.cons h3 h1, fun x hx => (List.mem_cons.mp hx).elim (fun e => e ▸ h4) (h2 x)⟩
theorem corsD_some : ∀ (ds : List PyData), (corsD ds).isSome = ds.all fun d => (corD d).isSome
  | [] => rfl
  | d :: ds => by
    have h := corsD_some ds
    rw [List.all_cons, ← h]
    cases e1 : corD d <;> cases e2 : corsD ds <;> simp [corsD, e1, e2]
theorem range_all {α : Type} (p : α → Bool) : ∀ (ds : List α), ((List.range ds.length).map fun j => (ds[j]?).elim false p).all id = ds.all p
  | [] => rfl
  | d :: ds => by
    have h := range_all p ds
    rw [List.length_cons, List.range_succ_eq_map, List.map_cons, List.all_cons, List.map_map, List.all_cons, ← h]
    rfl
/-- an edge of a land has two ends -/
theorem goes_ne {ps : List (Int × Int)} (h : goesB ps = true) (h3 : 3 ≤ ps.length) {e : (Int × Int) × (Int × Int)} (he : e ∈ eds ps) : e.1 ≠ e.2 := fun z => by
  have h1 := List.all_eq_true.mp h e he
  unfold edgeB at h1
  have : ps.filter (leftB e) = [] := by
    rw [List.filter_eq_nil_iff]
    intro x _ c
    have := of_decide_eq_true c
    unfold lineV bdE at this
    rw [z] at this
    simp at this
  rw [this, beq_iff_eq] at h1
  simp at h1
  omega
section
variable {C CP CL p D dx : Addr} {H H' : Hp} {z : V} {X Y X2 Y2 : Rat} {x : Str × V}
theorem RatQ.one (k : ∀ b o, b ≠ p → H b = some o → H' b = some o) (hp : H p = some (.ins D dx [x])) (h : RatQ C H z X) : RatQ C H' z X := by
  obtain ⟨b, d, rfl, e⟩ := h
  exact ⟨b, d, rfl, k b _ (fun w => by rw [w, hp] at e; cases e) e⟩
theorem PtQ.one (k : ∀ b o, b ≠ p → H b = some o → H' b = some o) (hp : H p = some (.ins D dx [x])) (h : PtQ C CP H z X Y) : PtQ C CP H' z X Y := by
  obtain ⟨b, d, v, w, rfl, e, h1, h2⟩ := h
  exact ⟨b, d, v, w, rfl, k b _ (fun w => by rw [w, hp] at e; cases e) e, h1.one k hp, h2.one k hp⟩
theorem LnQ.one (k : ∀ b o, b ≠ p → H b = some o → H' b = some o) (hp : H p = some (.ins D dx [x])) (h : LnQ C CP CL H z X Y X2 Y2) : LnQ C CP CL H' z X Y X2 Y2 := by
  obtain ⟨b, d, v, w, rfl, e, h1, h2⟩ := h
  exact ⟨b, d, v, w, rfl, k b _ (fun w => by rw [w, hp] at e; cases e) e, h1.one k hp, h2.one k hp⟩
theorem RatQ.nol (nl : NoL H H') (h : RatQ C H z X) : RatQ C H' z X := let ⟨b, d, q, e⟩ := h; ⟨b, d, q, nl _ _ e fun _ w => nomatch w⟩
theorem PtQ.nol (nl : NoL H H') (h : PtQ C CP H z X Y) : PtQ C CP H' z X Y := let ⟨b, d, v, w, q, e, h1, h2⟩ := h; ⟨b, d, v, w, q, nl _ _ e (fun _ w => nomatch w), h1.nol nl, h2.nol nl⟩
theorem LnQ.nol (nl : NoL H H') (h : LnQ C CP CL H z X Y X2 Y2) : LnQ C CP CL H' z X Y X2 Y2 := let ⟨b, d, v, w, q, e, h1, h2⟩ := h; ⟨b, d, v, w, q, nl _ _ e (fun _ w => nomatch w), h1.nol nl, h2.nol nl⟩
theorem Pt.one {ns : List Int} {fs : List (Str × V)} (k : ∀ b o, b ≠ p → H b = some o → H' b = some o) (hp : H p = some (.ins D dx fs)) (h : Pt H z ns) : Pt H' z ns := by
  obtain ⟨t, rfl, e⟩ := h
  exact ⟨t, rfl, k t _ (fun w => by rw [w, hp] at e; cases e) e⟩
end
theorem land_no1 {ds : List PyData} (h : ¬ (3 ≤ ds.length ∧ ds.length ≤ 8)) : landD (.tuple ds) = none := if_neg h
theorem land_no2 {ds : List PyData} (h : corsD ds = none) : landD (.tuple ds) = none := by
  simp [landD, h]
theorem land_no3 {ds : List PyData} {ps : List (Int × Int)} (h : corsD ds = some ps) (g : goesB ps = false) : landD (.tuple ds) = none := by
  simp [landD, h, g]
theorem land_yes {ds : List PyData} {ps : List (Int × Int)} (h1 : 3 ≤ ds.length) (h2 : ds.length ≤ 8) (h : corsD ds = some ps) (g : goesB ps = true) : landD (.tuple ds) = some ps := by
  simp [landD, h, g, h1, h2]
section
variable {P : Program} {w : World} {K : PySem.W.Frag} {mg : Str → Option Value} {base : Heap} {a : Ad}
theorem ok_Land___init__ {fd : FuncData} (F : Fun K "__init__" "Land.__init__" s_Land___init__ a.Land___init__ fd) (T : Txt K mg a)
    {fd__with_next : FuncData} (G__with_next : FnOk P w K mg base CX0 1 a._with_next fd__with_next ["corners"] spWith) (b__with_next : Binds K fd__with_next ["corners"] [])
    {fd_Line___init__ : FuncData} (G_Line___init__ : FnOk P w K mg base CX0 6 a.Line___init__ fd_Line___init__ ["self", "one", "other"] (spLInit K a.Ratio a.Point a.Line)) (b_Line___init__ : Binds K fd_Line___init__ ["self", "one", "other"] [])
    {fd_Point___init__ : FuncData} (G_Point___init__ : FnOk P w K mg base CX0 6 a.Point___init__ fd_Point___init__ ["self", "x", "y"] (spPInit a.Ratio a.Point)) (b_Point___init__ : Binds K fd_Point___init__ ["self", "x", "y"] [])
    {fd__goes_round_once : FuncData} (G__goes_round_once : FnOk P w K mg base CX0 2 a._goes_round_once fd__goes_round_once ["corners", "borders"] spGoes) (b__goes_round_once : Binds K fd__goes_round_once ["corners", "borders"] [])
    {fd_init : FuncData} (G_init : FnOk P w K mg base CX0 1 a.init fd_init ["self", "value"] (spErrInit K)) (b_init : Binds K fd_init ["self", "value"] [])
    {fd__borders : FuncData} (G__borders : FnOk P w K mg base CX0 2 a._borders fd__borders ["corners"] spBord) (b__borders : Binds K fd__borders ["corners"] [])
    {fd__is_corner : FuncData} (G__is_corner : FnOk P w K mg base CX0 2 a._is_corner fd__is_corner ["value"] spCor) (b__is_corner : Binds K fd__is_corner ["value"] []) :
    FnOk P w K mg base (L2.CX P w) 8 a.Land___init__ fd ["self", "corners"] (spLdI K a) := by
  refine F.okX sc_Land___init__ (fun vs H Q E h => ?len) (fun cdv A outer s H vs Q E hr h => ⟨_,
      (pss_cons (ps_if (PW.pt (pw_or (pt_not (pt_val (pe_callB call_isi (by rfl) T.n_isinstance (by decide +kernel) (pa_cons (pv 1) (pa_cons (pe_bltn (v := .ty "tuple") (u := .type "tuple") (by rfl) T.n_tuple (by decide +kernel) rfl) pa_nil))))) (pw_or1 (pt_not (pt_chain op_le op_le pe_int (pe_callB call_len_seq (by rfl) T.n_len (by decide +kernel) (pa_cons (pv 1) pa_nil)) pe_int))))) (pss_one (ps_raise rfl (takes_of rfl rfl rfl rfl) (pmk_oex T.c_BadLand.ox T.i_BadLand T.tI G_init (hr.mono (by omega)) b_init .nil pass0 (by rfl) T.g_BadLand (pa_cons (pv 1) pa_nil)))) pss_nil)
      (pss_cons (ps_if (pt_not (pt_val (pe_callB (cr_all rfl) (by rfl) T.n_all (by decide +kernel) (pa_cons (pe_lc (own := [("corner", 7)]) (g := gName 7) (tt := tYes) rfl sc_Land___init__.nd (pi_tup (pv 1)) (blkOk_by (own := [("corner", 7)]) (N := ["self", "corners", "borders", "x", "y", "to_x", "to_y", "corner"]) (sc := defScope s_Land___init__) (by decide +kernel)) (fun _ _ _ _ _ => (pg_name (i := 7) sc_Land___init__.nd rfl (Or.inl rfl))) (fun _ _ _ _ _ => pts_nil) (fun _ _ _ _ _ => (pe_call G__is_corner (hr.mono (by omega)) (by rfl) T.g__is_corner T.k__is_corner b__is_corner .nil pass0 (pa_cons (pv 7) pa_nil)))) pa_nil)))) (pss_one (ps_raise rfl (takes_of rfl rfl rfl rfl) (pmk_oex T.c_BadLand.ox T.i_BadLand T.tI G_init (hr.mono (by omega)) b_init .nil pass0 (by rfl) T.g_BadLand (pa_cons (pv 1) pa_nil)))) pss_nil)
      (pss_cons (ps_set (i := 2) sc_Land___init__.nd rfl (Or.inl rfl) (pe_call G__borders (hr.mono (by omega)) (by rfl) T.g__borders T.k__borders b__borders .nil pass0 (pa_cons (pv 1) pa_nil)))
      (pss_cons (ps_if (pt_not (pt_val (pe_call G__goes_round_once (hr.mono (by omega)) (by rfl) T.g__goes_round_once T.k__goes_round_once b__goes_round_once .nil pass0 (pa_cons (pv 1) (pa_cons (pv 2) pa_nil))))) (pss_one (ps_raise rfl (takes_of rfl rfl rfl rfl) (pmk_oex T.c_BadLand.ox T.i_BadLand T.tI G_init (hr.mono (by omega)) b_init .nil pass0 (by rfl) T.g_BadLand (pa_cons (pv 1) pa_nil)))) pss_nil)
      (pss_cons (ps_fld (pv 0) (pv 1) rfl)
      (pss_cons (ps_fld (pv 0) (pe_callTy call_tuple_of (by rfl) T.n_tuple (by decide +kernel) (pa_cons (pe_lc (own := [("x", 3), ("y", 4), ("to_x", 5), ("to_y", 6)]) (g := (gTup K 2 (gCons (gTup K 2 (gCons (gName 3) (gCons (gName 4) gNil))) (gCons (gTup K 2 (gCons (gName 5) (gCons (gName 6) gNil))) gNil)))) (tt := tYes) rfl sc_Land___init__.nd (pi_list (pe_call G__with_next (hr.mono (by omega)) (by rfl) T.g__with_next T.k__with_next b__with_next .nil pass0 (pa_cons (pv 1) pa_nil))) (blkOk_by (own := [("x", 3), ("y", 4), ("to_x", 5), ("to_y", 6)]) (N := ["self", "corners", "borders", "x", "y", "to_x", "to_y", "corner"]) (sc := defScope s_Land___init__) (by decide +kernel)) (fun _ _ _ _ _ => (pg_tup rfl (pgs_cons (pg_tup rfl (pgs_cons (pg_name (i := 3) sc_Land___init__.nd rfl (Or.inl rfl) (hf := Or.inr rfl)) (pgs_cons (pg_name (i := 4) sc_Land___init__.nd rfl (Or.inl rfl) (hf := Or.inr rfl)) pgs_nil))) (pgs_cons (pg_tup rfl (pgs_cons (pg_name (i := 5) sc_Land___init__.nd rfl (Or.inl rfl) (hf := Or.inr rfl)) (pgs_cons (pg_name (i := 6) sc_Land___init__.nd rfl (Or.inl rfl) (hf := Or.inr rfl)) pgs_nil))) pgs_nil)))) (fun _ _ _ _ _ => pts_nil) (fun _ _ _ _ _ => (pe_make T.m_Line G_Line___init__ (hr.mono (by omega)) (by rfl) T.g_Line b_Line___init__ .nil pass0 (pa_cons (pe_make T.m_Point G_Point___init__ (hr.mono (by omega)) (by rfl) T.g_Point b_Point___init__ .nil pass0 (pa_cons (pv 3) (pa_cons (pv 4) pa_nil))) (pa_cons (pe_make T.m_Point G_Point___init__ (hr.mono (by omega)) (by rfl) T.g_Point b_Point___init__ .nil pass0 (pa_cons (pv 5) (pa_cons (pv 6) pa_nil))) pa_nil))))) pa_nil)) rfl)
      (pss_one (ps_fld (pv 0) (pv 2) rfl)))))))), ?body⟩)
  case len => obtain ⟨p, dx, v, d, rfl, _⟩ := h; rfl
  case body =>
    obtain ⟨p, dx, v, d, rfl, hp, hd, q1, q2⟩ := h
    have hsz := sizeLine_eq
    obtain ⟨t, ty, _, _, k3⟩ := da_cls (K := K) hd
    refine ⟨_, rfl, _, _, _, _, isT d, rfl, .ty _, ty, k3, isT d, rfl, ?_⟩
    cases ht : isT d with
    | false =>
      refine iteT (iteT ?_)
      exact ⟨_, rfl, raise_told T.c_BadLand fun o H' S e => q2 (by cases d <;> first | rfl | cases ht) o H' S e⟩
    | true =>
      obtain ⟨c, us, ds, rfl, rfl, hc, hda⟩ : ∃ p xs ds, v = .ref p ∧ d = .tuple ds ∧ H p = some (.tup xs) ∧ DaAll H xs ds := by
        cases hd with
        | tup e t => exact ⟨_, _, _, rfl, rfl, e, t⟩
        | _ => cases ht
      have hl := hda.length
      have bad : landD (.tuple ds) = none → ∀ {H1 : Hp}, Same H H1 → ∀ (o : Addr) (H' : Hp), Same H1 H' → H' o = some (.xd [("value", .ref c)]) → E (.ref a.BadLand) (some o) H' := fun z H1 S o H' S' e => q2 z o H' (S.trans S') e
      refine iteF ⟨_, rfl, c, us, rfl, .inr (SqT.of hc), _, _, rfl, rfl, _, rfl, ?_⟩
      by_cases h3 : 3 ≤ us.length
      · refine ite2 (fun _ => ?_) (fun z => absurd (decide_eq_true (by omega)) z)
        refine ⟨_, _, rfl, rfl, _, rfl, ?_⟩
        by_cases h8 : us.length ≤ 8
        · refine ite2 (fun z => absurd z (by rw [decide_eq_true (by omega)]; exact Bool.false_ne_true)) (fun _ => ?_)
          refine ⟨_, rfl, c, rfl, ⟨_, SqT.of hc⟩, fun D nD => lc_valW walk_tup (fun j => .bl ((ds[j]?).elim false fun d => (corD d).isSome)) nD (fun H' S => SqT.of (S _ _ hc)) (by omega) ?he ?hd⟩
          case he =>
            rintro i x H5 H6 Q' N hi S ⟨rfl, hx⟩ qy
            obtain ⟨e, he, hde⟩ := daAll_at hda hx
            rw [he] at qy
            exact ⟨rfl, yesI ⟨_, rfl, x, e, rfl, hde.same S, fun H3 S3 => qy H3 S3⟩⟩
          case hd =>
            intro H1 S1 hD
            refine ⟨D, (List.range us.length).map fun j => (ds[j]?).elim false fun d => (corD d).isSome, rfl, SqL.of (by rw [List.map_map]; exact hD), ?_⟩
            rw [hl, range_all, ← corsD_some]
            cases hcs : corsD ds with
            | none =>
              exact ⟨_, rfl, iteT ⟨_, rfl, raise_told T.c_BadLand (bad (land_no2 hcs) S1)⟩⟩
            | some ps =>
              obtain ⟨hp0, hnr⟩ := corsD_pls hda hcs
              have hlp := hp0.length
              refine ⟨_, rfl, iteF ?_⟩
              refine ⟨_, rfl, c, us, ps, rfl, S1 _ _ hc, Paired.mapP hp0 fun _ _ e => e.same S1, hnr, by omega, h8, fun bl bs H2 S2 hbl hbs => ?_⟩
              have S12 := S1.trans S2
              refine ⟨_, rfl, _, rfl, c, bl, us, bs, ps, rfl, S12 _ _ hc, Paired.mapP hp0 fun _ _ e => e.same S12, hnr, h3, h8, hbl, hbs, fun H3 S3 => ⟨_, rfl, ?_⟩⟩
              have S13 := S12.trans S3
              cases hg : goesB ps with
              | false =>
                exact iteT ⟨_, rfl, raise_told T.c_BadLand (bad (land_no3 hcs hg) S13)⟩
              | true =>
                refine iteF ?_
                have q1 := q1 ps (land_yes (by omega) (by omega) hcs hg)
                have hp3 := S13 _ _ hp
                refine ⟨_, rfl, _, rfl, _, _, _, _, rfl, hp3, T.clD, T.nC, by decide, ?_⟩
                have hbl3 := S3 _ _ hbl
                have hc3 := S13 _ _ hc
                have hpl3 : Pls H3 us ps := Paired.mapP hp0 fun _ _ e => e.same S13
                have hbs3 := Paired.mapP hbs fun _ _ e => Pt.same S3 e
                have kc : ∀ b o, b ≠ p → H3 b = some o → upd H3 p (.ins a.Land dx [("corners", .ref c)]) b = some o := fun b o n e => by rw [upd_ne n]; exact e
                have cp : c ≠ p := fun z => by rw [z, hp3] at hc3; cases hc3
                have blp : bl ≠ p := fun z => by rw [z, hp3] at hbl3; cases hbl3
                refine ⟨_, rfl, c, us, ps, rfl, kc _ _ cp hc3, Paired.mapP hpl3 fun _ _ e => e.one kc hp3, by omega, h8, fun l ws H4 S4 hl4 hws => ⟨l, rfl, ⟨_, SqL.of hl4⟩, fun D2 nD2 => ?_⟩⟩
                have hwl := hws.length
                rw [eds_len] at hwl
                refine lc_relW walk_list (fun i z H' => ∃ e, (eds ps)[i]? = some e ∧ LnQ a.Ratio a.Point a.Line H' z e.1.1 e.1.2 e.2.1 e.2.2) ?hR2 nD2 (fun H' S => S.seq (SqL.of hl4)) (by omega) ?he2 ?hd2
                case hR2 =>
                  rintro i z H5 H6 nl ⟨e, he, h⟩
                  exact ⟨e, he, h.nol nl⟩
                case he2 =>
                  rintro i x H5 H6 Q' N hi S ⟨rfl, hx⟩ qy
                  obtain ⟨e, he, t', q', r', rfl, f1, f2, f3⟩ := paired_at hws hx
                  have f1 := S _ _ f1
                  have f2 := S _ _ f2
                  have f3 := S _ _ f3
                  refine ⟨t', _, rfl, SqT.of f1, rfl, _, _, rfl, q', _, rfl, SqT.of f2, rfl, _, _, rfl, _, _, rfl, rfl, _, _, rfl, r', _, rfl, SqT.of f3, rfl, _, _, rfl, _, _, rfl, rfl, rfl, rfl, yesI ?_⟩
                  refine ⟨_, rfl, _, rfl, ?_⟩
                  intro y1 dy1 c1 c2 c3
                  refine mk_pt (X := ((e.1.1 : Int) : Rat)) (Y := ((e.1.2 : Int) : Rat)) (.inl ⟨rfl, rfl⟩) (.inl ⟨rfl, rfl⟩) c1 c2 c3 fun H7 S7 p7 => ⟨rfl, ?_⟩
                  refine ⟨_, rfl, _, rfl, ?_⟩
                  intro y2 dy2 c4 c5 c6
                  refine mk_pt (X := ((e.2.1 : Int) : Rat)) (Y := ((e.2.2 : Int) : Rat)) (.inl ⟨rfl, rfl⟩) (.inl ⟨rfl, rfl⟩) c4 c5 c6 fun H8 S8 p8 => ⟨rfl, ?_⟩
                  intro y3 dy3 c7 c8 c9
                  refine mk_ln (p7.same S8) p8 (fun z => goes_ne hg (by omega) (List.mem_of_getElem? he) (Prod.ext (congrArg Rat.num z.1) (congrArg Rat.num z.2))) c7 c8 fun H9 S9 p9 => ⟨rfl, ?_⟩
                  exact qy _ _ ((S7.trans S8).trans S9) ⟨e, he, p9⟩
                case hd2 =>
                  intro ys H5 S5 hD5 hly hys
                  refine ⟨D2, ys, rfl, .inl ⟨SqL.of hD5, fun t5 n5 => ?_⟩⟩
                  have St := same_new (o := .tup ys) n5
                  have S45 := (S4.trans S5).trans St
                  have hp5 := S45 _ _ upd_same
                  refine ⟨_, rfl, _, _, _, _, rfl, hp5, T.clD, T.nE, (by show 1 < 1000; decide), ?_⟩
                  refine ⟨_, rfl, _, rfl, _, _, _, _, rfl, upd_same, T.clD, T.nBo, (by show 2 < 1000; decide), ?_⟩
                  have k5 : ∀ b o, b ≠ p → upd H5 t5 (.tup ys) b = some o → upd (upd (upd H5 t5 (.tup ys)) p (.ins a.Land dx [("corners", .ref c), ("edges", .ref t5)])) p (.ins a.Land dx (ldFs (.ref c) (.ref t5) (.ref bl))) b = some o := fun b o n e => by rw [upd_ne n, upd_ne n]; exact e
                  have k3 : ∀ b o, b ≠ p → H3 b = some o → upd H5 t5 (.tup ys) b = some o := fun b o n e => S45 _ _ (kc b o n e)
                  have tp : t5 ≠ p := fun z => by
                    have := S5 _ _ (S4 _ _ upd_same)
                    rw [z, this] at n5
                    cases n5
                  refine q1 _ (fun b o n e => k5 b o n (k3 b o n (S13 _ _ e))) ⟨p, dx, t5, bl, c, us, ys, bs, rfl, upd_same, rfl, k5 _ _ cp (k3 _ _ cp hc3), ?_, k5 _ _ tp upd_same, ?_, k5 _ _ blp (k3 _ _ blp hbl3), ?_⟩
                  · exact Paired.mapP hpl3 fun _ _ e => (Pt.one k3 hp3 e).one k5 hp5
                  · refine paired_of (by rw [eds_len]; omega) fun i v x e1 e2 => ?_
                    obtain ⟨e, he, h⟩ := hys i v e1
                    rw [he] at e2
                    cases e2
                    exact (h.same St).one k5 hp5
                  · exact Paired.mapP hbs3 fun _ _ e => (Pt.one k3 hp3 e).one k5 hp5
        · refine ite2 (fun _ => ?_) (fun z => absurd (by rw [decide_eq_false (by omega)]; rfl) z)
          exact ⟨_, rfl, raise_told T.c_BadLand (bad (land_no1 (by omega)) (Same.refl _))⟩
      · refine ite2 (fun z => absurd (of_decide_eq_true z) (by omega)) (fun _ => ?_)
        exact ⟨_, rfl, iteT ⟨_, rfl, raise_told T.c_BadLand (bad (land_no1 (by omega)) (Same.refl _))⟩⟩
end
end My

namespace My
open PySem PySem.Spec PyProof.Rows L2 G
abbrev s_Land___contains__ : Stmt := inClass (topS 36) 1
theorem sc_Land___contains__ : FnScope ["self", "value", "high"] ["self", "value"] (defScope s_Land___contains__) := ⟨rfl, rfl, rfl, by decide +kernel, rfl, by decide +kernel, by decide +kernel⟩

abbrev s_Land___eq__ : Stmt := inClass (topS 36) 2
theorem sc_Land___eq__ : FnScope ["self", "other"] ["self", "other"] (defScope s_Land___eq__) := ⟨rfl, rfl, rfl, by decide +kernel, rfl, by decide +kernel, by decide +kernel⟩

theorem eqv_all : ∀ (xs ys : List (Int × Int)), PyData.eqvAll (xs.map plD) (ys.map plD) = decide (xs = ys)
  | [], [] => by simp [PyData.eqvAll]
  | [], _ :: _ => by simp [PyData.eqvAll]
  | _ :: _, [] => by simp [PyData.eqvAll]
  | x :: xs, y :: ys => by
    have h := eqv_all xs ys
    rw [List.map_cons, List.map_cons, PyData.eqvAll, pl_eqv, h]
    simp [Bool.decide_and]
theorem plsT_eqv (xs ys : List (Int × Int)) : PyData.eqv (.tuple (xs.map plD)) (.tuple (ys.map plD)) = decide (xs = ys) := by
  rw [← eqv_all]
  simp [PyData.eqv]
theorem plsT_shaped (xs : List (Int × Int)) : SeqAt.shaped (.tuple (xs.map plD)) = true := by
  obtain ⟨h1, h2⟩ := pls_all xs
  unfold SeqAt.shaped
  rw [Bool.and_eq_true]
  refine ⟨h1, decide_eq_true ?_⟩
  simp only [PyData.depth]
  omega
theorem ldTy {K : PySem.W.Frag} {mg : Str → Option Value} {a : Ad} (T : Txt K mg a) {H : Hp} {z u : V} {ps : List (Int × Int)} (h : LdQ a H z u ps) : TyX K H z (.ref a.Land) := by
  obtain ⟨b, dx, t, bl, c, us, ws, bs, rfl, hb, _⟩ := h
  exact .base (.ins hb T.clD T.riD.ca T.riD.cn T.riD.ct T.riD.cm)
section
variable {P : Program} {w : World} {K : PySem.W.Frag} {mg : Str → Option Value} {base : Heap} {a : Ad}
theorem ok_Land___contains__ {fd : FuncData} (F : Fun K "__contains__" "Land.__contains__" s_Land___contains__ a.Land___contains__ fd) (T : Txt K mg a)
    {fd_heights_at : FuncData} (G_heights_at : FnOk P w K mg base CX0 1 a.heights_at fd_heights_at ["lines", "spot"] spHts) (b_heights_at : Binds K fd_heights_at ["lines", "spot"] [])
    {fd_spot_of : FuncData} (G_spot_of : FnOk P w K mg base CX0 1 a.spot_of fd_spot_of ["point"] (spSpotOf a.Ratio a.Point)) (b_spot_of : Binds K fd_spot_of ["point"] []) :
    FnOk P w K mg base CX0 3 a.Land___contains__ fd ["self", "value"] (spLdC K a) := by
  refine F.ok sc_Land___contains__ (fun vs H Q E h => ?len) (fun cdv A outer s H vs Q E hr h => ⟨_,
      (pss_cons (ps_if (pt_not (pt_val (pe_callB call_isi (by rfl) T.n_isinstance (by decide +kernel) (pa_cons (pv 1) (pa_cons (pe_glob (v := .ref a.Point) (by rfl) T.g_Point rfl) pa_nil))))) (pss_one (ps_ret pe_bl)) pss_nil)
      (pss_one (ps_ret (pe_callB (cr_all rfl) (by rfl) T.n_all (by decide +kernel) (pa_cons (pe_lc (own := [("high", 2)]) (g := gName 2) (tt := tYes) rfl sc_Land___contains__.nd (pi_list (pe_call G_heights_at (hr.mono (by omega)) (by rfl) T.g_heights_at T.k_heights_at b_heights_at .nil pass0 (pa_cons (pe_fld (pv 0) rfl) (pa_cons (pe_call G_spot_of (hr.mono (by omega)) (by rfl) T.g_spot_of T.k_spot_of b_spot_of .nil pass0 (pa_cons (pv 1) pa_nil)) pa_nil)))) (blkOk_by (own := [("high", 2)]) (N := ["self", "value", "high"]) (sc := defScope s_Land___contains__) (by decide +kernel)) (fun _ _ _ _ _ => (pg_name (i := 2) sc_Land___contains__.nd rfl (Or.inl rfl))) (fun _ _ _ _ _ => pts_nil) (fun _ _ _ _ _ => (pe_cmpR op_ge (pv 2) pe_int (nomark _)))) pa_nil))))), ?body⟩)
  case len => obtain ⟨z, u, v, ps, rfl, _⟩ := h; rfl
  case body =>
    obtain ⟨z, u, v, ps, rfl, hz, nr, h8, h⟩ := h
    have hsz := sizeLine_eq
    obtain ⟨b, dx, t, bl, c, us, ws, bs, rfl, hb, rfl, hc, hpl, ht, hln, hbl, hbs⟩ := hz
    rcases h with ⟨X, Y, k, hv, i1, i2, i3, i4, hk, q⟩ | ⟨⟨t, ty, k1⟩, q⟩
    · refine ⟨_, rfl, v, _, _, _, true, rfl, .own _, ptTy T hv, T.riP.ks, true, rfl, iteF ?_⟩
      have hwl := hbs.length
      rw [List.length_map, eds_len] at hwl
      refine ⟨_, rfl, _, _, _, _, _, rfl, hb, T.clD, T.nBo, rfl, _, rfl, v, X, Y, k, rfl, hv, i1, i2, i3, i4, by omega, fun w' H1 S1 hw => ?_⟩
      have hbs1 : Paired (fun u (e : Int × Int × Int) => Pt H1 u [e.1, e.2.1, e.2.2] ∧ Ib 40 e.1 ∧ Ib 40 e.2.1 ∧ Ib 40 e.2.2) bs ((eds ps).map bdE) := paired_of (by rw [List.length_map, eds_len]; omega) fun i x e e1 e2 => by
        obtain ⟨e', h1, h2⟩ := paired_at hbs e1
        rw [h1] at e2
        cases e2
        obtain ⟨o, ho, rfl⟩ := List.mem_map.mp (List.mem_of_getElem? h1)
        obtain ⟨m1, m2⟩ := eds_mem ho
        exact ⟨h2.same S1, bd_ib (nr _ m1) (nr _ m2)⟩
      refine ⟨bl, w', bs, (eds ps).map bdE, _, _, _, k + k, rfl, S1 _ _ hbl, hbs1, by omega, hw, i1.mul i4, i2.mul i3, i3.mul i4, by omega, fun m H2 S2 hm => ⟨m, rfl, ⟨_, SqL.of hm⟩, fun D nD => ?_⟩⟩
      refine lc_valW walk_list (fun i => .bl ((((eds ps).map bdE)[i]?).elim false fun e => decide (0 ≤ lineV e (X.num * Y.den) (Y.num * X.den) (X.den * Y.den)))) nD (fun H' S => S.seq (SqL.of hm)) (by rw [List.length_map, List.length_map, eds_len]; omega) ?he ?hd
      case he =>
        rintro i x H5 H6 Q' N hi S ⟨rfl, hx⟩ qy
        rw [List.getElem?_map] at hx
        obtain ⟨e, he, rfl⟩ := Option.map_eq_some_iff.mp hx
        rw [he] at qy
        exact ⟨rfl, yesI ⟨_, rfl, _, _, rfl, rfl, qy _ (Same.refl _)⟩⟩
      case hd =>
        intro H5 S5 hD
        refine ⟨D, (List.range ((eds ps).map bdE).length).map fun i => (((eds ps).map bdE)[i]?).elim false fun e => decide (0 ≤ lineV e (X.num * Y.den) (Y.num * X.den) (X.den * Y.den)), rfl, SqL.of (by rw [List.map_map]; rw [List.length_map] at hD; exact hD), ?_⟩
        rw [range_all, List.all_map]
        exact q _ ((S1.trans S2).trans S5)
    · exact ⟨_, rfl, v, _, _, _, false, rfl, .own _, ty, k1, false, rfl, iteT q⟩
theorem ok_Land___eq__ {fd : FuncData} (F : Fun K "__eq__" "Land.__eq__" s_Land___eq__ a.Land___eq__ fd) (T : Txt K mg a) :
    FnOk P w K mg base CX0 1 a.Land___eq__ fd ["self", "other"] (spLdE K a) := by
  refine F.ok sc_Land___eq__ (fun vs H Q E h => ?len) (fun cdv A outer s H vs Q E hr h => ⟨_,
      (pss_one (ps_ret (pe_and (pe_callB call_isi (by rfl) T.n_isinstance (by decide +kernel) (pa_cons (pv 1) (pa_cons (pe_glob (v := .ref a.Land) (by rfl) T.g_Land rfl) pa_nil))) (pe_one (pe_cmpR (op_eqD hr.units) (pe_fld (pv 0) rfl) (pe_fld (pv 1) rfl) (nomark _)))))), ?body⟩)
  case len => obtain ⟨z, u, v, ps, rfl, _⟩ := h; rfl
  case body =>
    obtain ⟨z, u, v, ps, rfl, hz, h⟩ := h
    obtain ⟨b, dx, t, bl, c, us, ws, bs, rfl, hb, rfl, hc, hpl, ht, hln, hbl, hbs⟩ := hz
    rcases h with ⟨w', qs, hv, q⟩ | ⟨⟨t, ty, k1⟩, q⟩
    · refine ⟨_, rfl, v, _, _, _, true, rfl, .own _, ldTy T hv, T.riD.ks, true, rfl, iteT ?_⟩
      obtain ⟨b2, dx2, t2, bl2, c2, us2, ws2, bs2, rfl, hb2, rfl, hc2, hpl2, ht2, hln2, hbl2, hbs2⟩ := hv
      refine ⟨_, rfl, _, _, _, _, _, rfl, hb, T.clD, T.nC, rfl, _, rfl, _, _, _, _, _, rfl, hb2, T.clD, T.nC, rfl, ?_⟩
      refine ⟨_, _, .tup (SqT.of hc) (pls_dp hpl), .tup (SqT.of hc2) (pls_dp hpl2), plsT_shaped _, plsT_shaped _, ?_⟩
      rw [plsT_eqv]
      exact q
    · exact ⟨_, rfl, v, _, _, _, false, rfl, .own _, ty, k1, false, rfl, iteF q⟩
end
end My

namespace My
/-! ### hulls -/
abbrev PP := Int × Int
/-- twice the area of a triangle, above 0 where it turns left -/
def tri (a b c : PP) : Int := hgt a.1 a.2 b.1 b.2 c.1 c.2 1
theorem tri_eq (a b c : PP) : tri a b c = (b.1 - a.1) * (c.2 - a.2) - (b.2 - a.2) * (c.1 - a.1) := by
  unfold tri hgt
  grind
theorem tri_cyc (a b c : PP) : tri b c a = tri a b c := by
  rw [tri_eq, tri_eq]
  grind
def lexB (a b : PP) : Prop := a.1 < b.1 ∨ (a.1 = b.1 ∧ a.2 < b.2)
theorem lex_trans {a b c : PP} (h : lexB a b) (k : lexB b c) : lexB a c := by
  unfold lexB at *
  omega
theorem pos_of {a b : Int} (ha : 0 < a) (h : 0 < a * b) : 0 < b := Int.lt_of_mul_lt_mul_left (a := a) (by rw [Int.mul_zero]; exact h) (by omega)
/-- directions that point right (or straight up): the turn is handed on -/
theorem turn_on {ux uy vx vy wx wy : Int} (hu : 0 < ux ∨ (ux = 0 ∧ 0 < uy)) (hv : 0 < vx ∨ (vx = 0 ∧ 0 < vy)) (hw : 0 < wx ∨ (wx = 0 ∧ 0 < wy)) (h1 : 0 < ux * vy - uy * vx) (h2 : 0 < vx * wy - vy * wx) : 0 < ux * wy - uy * wx := by
  have e : vx * (ux * wy - uy * wx) = wx * (ux * vy - uy * vx) + ux * (vx * wy - vy * wx) := by grind
  rcases hv with hv | ⟨hv, hv'⟩
  · refine pos_of hv ?_
    rw [e]
    have hux : 0 < ux := by
      rcases hu with h | ⟨h, h'⟩
      · exact h
      · subst h
        have := Int.mul_pos h' hv
        rw [Int.zero_mul] at h1
        omega
    have a1 := Int.mul_pos hux h2
    have a2 : 0 ≤ wx * (ux * vy - uy * vx) := Int.mul_nonneg (by omega) (by omega)
    omega
  · subst hv
    have : 0 ≤ vy * wx := Int.mul_nonneg (by omega) (by omega)
    rw [Int.zero_mul] at h2
    omega
theorem four {a b c d : PP} (h1 : lexB a b) (h2 : lexB b c) (h3 : lexB c d) (t1 : 0 < tri a b c) (t2 : 0 < tri b c d) : 0 < tri a b d ∧ 0 < tri a c d := by
  rw [tri_eq] at *
  rw [tri_eq]
  have f1 : (b.1 - a.1) * (c.2 - a.2) - (b.2 - a.2) * (c.1 - a.1) = (b.1 - a.1) * (c.2 - b.2) - (b.2 - a.2) * (c.1 - b.1) := by grind
  have f2 : (c.1 - b.1) * (d.2 - b.2) - (c.2 - b.2) * (d.1 - b.1) = (c.1 - b.1) * (d.2 - c.2) - (c.2 - b.2) * (d.1 - c.1) := by grind
  rw [f1] at t1
  rw [f2] at t2
  have t3 := turn_on (ux := b.1 - a.1) (uy := b.2 - a.2) (vx := c.1 - b.1) (vy := c.2 - b.2) (wx := d.1 - c.1) (wy := d.2 - c.2) (by unfold lexB at h1; omega) (by unfold lexB at h2; omega) (by unfold lexB at h3; omega) t1 t2
  have f3 : (b.1 - a.1) * (d.2 - a.2) - (b.2 - a.2) * (d.1 - a.1) = ((b.1 - a.1) * (c.2 - b.2) - (b.2 - a.2) * (c.1 - b.1)) + ((b.1 - a.1) * (d.2 - c.2) - (b.2 - a.2) * (d.1 - c.1)) := by grind
  have f4 : (c.1 - a.1) * (d.2 - a.2) - (c.2 - a.2) * (d.1 - a.1) = ((b.1 - a.1) * (d.2 - c.2) - (b.2 - a.2) * (d.1 - c.1)) + ((c.1 - b.1) * (d.2 - c.2) - (c.2 - b.2) * (d.1 - c.1)) := by grind
  rw [f3, f4]
  omega
/-- every three in their order turn left -/
def Cvx : List PP → Prop
  | [] => True
  | a :: l => l.Pairwise (fun b c => 0 < tri a b c) ∧ Cvx l
def Turns : List PP → Prop
  | a :: b :: c :: l => 0 < tri a b c ∧ Turns (b :: c :: l)
  | _ => True
theorem turns_tail {a : PP} : ∀ {l : List PP}, Turns (a :: l) → Turns l
  | [], _ => trivial
  | [_], _ => trivial
  | _ :: _ :: _, h => h.2
theorem cvx_of : ∀ (l : List PP), l.Pairwise lexB → Turns l → Cvx l
  | [], _, _ => trivial
  | [a], _, _ => ⟨.nil, trivial⟩
  | [a, b], _, _ => ⟨.cons (fun _ h => nomatch h) .nil, .nil, trivial⟩
  | a :: b :: c :: l, p, t => by
    have ih := cvx_of (b :: c :: l) (List.pairwise_cons.mp p).2 t.2
    have pa := (List.pairwise_cons.mp p).1
    have p1 := (List.pairwise_cons.mp p).2
    have pb := (List.pairwise_cons.mp p1).1
    have p2 := (List.pairwise_cons.mp p1).2
    have hb := ih.1
    have ab := pa b (by simp)
    have bc := pb c (by simp)
    -- a, b and any later one
    have l1 : ∀ d ∈ c :: l, 0 < tri a b d := fun d hd => by
      rcases List.mem_cons.mp hd with rfl | hd
      · exact t.1
      · exact (four ab bc ((List.pairwise_cons.mp p2).1 d hd) t.1 ((List.pairwise_cons.mp hb).1 d hd)).1
    refine ⟨List.pairwise_cons.mpr ⟨l1, ?_⟩, ih⟩
    have := List.Pairwise.and p2 hb
    refine this.imp_of_mem fun {x y} hx hy h => ?_
    exact (four ab (pb x hx) h.1 (l1 x hx) h.2).2
theorem cvx_sub {l m : List PP} (h : l.Sublist m) : Cvx m → Cvx l := by
  induction h with
  | slnil => exact id
  | cons a _ ih => exact fun c => ih c.2
  | cons_cons a s ih => exact fun c => ⟨c.1.sublist s, ih c.2⟩
theorem cvx_snoc {a : PP} : ∀ (l : List PP), Cvx (l ++ [a]) ↔ Cvx l ∧ l.Pairwise (fun b c => 0 < tri b c a)
  | [] => ⟨fun _ => ⟨trivial, .nil⟩, fun _ => ⟨.nil, trivial⟩⟩
  | b :: l => by
    show ((l ++ [a]).Pairwise _ ∧ Cvx (l ++ [a])) ↔ _
    rw [cvx_snoc l, List.pairwise_append]
    constructor
    · rintro ⟨⟨h1, _, h2⟩, h3, h4⟩
      exact ⟨⟨h1, h3⟩, List.pairwise_cons.mpr ⟨fun c hc => h2 c hc a (by simp), h4⟩⟩
    · rintro ⟨⟨h1, h3⟩, h4⟩
      obtain ⟨h5, h6⟩ := List.pairwise_cons.mp h4
      exact ⟨⟨h1, List.pairwise_singleton _ _, fun c hc x hx => by rw [List.mem_singleton.mp hx]; exact h5 c hc⟩, h3, h6⟩
theorem cvx_rot1 {a : PP} {l : List PP} (h : Cvx (a :: l)) : Cvx (l ++ [a]) := (cvx_snoc l).mpr ⟨h.2, h.1.imp fun {b c} x => by rw [tri_cyc]; exact x⟩
theorem cvx_rot : ∀ (l m : List PP), Cvx (l ++ m) → Cvx (m ++ l)
  | [], m, h => by rw [List.append_nil]; exact h
  | a :: l, m, h => by
    have := cvx_rot l (m ++ [a]) (by rw [← List.append_assoc]; exact cvx_rot1 h)
    rw [List.append_assoc] at this
    exact this
end My

namespace My
theorem left_tri (e : PP × PP) (x : PP) : lineV (bdE e) x.1 x.2 1 = tri e.1 e.2 x := by
  rw [tri_eq]
  unfold lineV bdE
  grind
theorem left_dec (e : PP × PP) (x : PP) : leftB e x = decide (0 < tri e.1 e.2 x) := by
  unfold leftB
  rw [left_tri]
theorem tri_one (a b : PP) : tri a b a = 0 := by
  rw [tri_eq]
  grind
theorem tri_two (a b : PP) : tri a b b = 0 := by
  rw [tri_eq]
  grind
theorem eds_split {ps : List PP} {e : PP × PP} (h2 : 2 ≤ ps.length) (he : e ∈ eds ps) : ∃ u v l, ps = u ++ v ∧ v ++ u = e.1 :: e.2 :: l := by
  obtain ⟨i, hi⟩ := List.mem_iff_getElem?.mp he
  unfold eds at hi
  rw [List.getElem?_zip_eq_some] at hi
  obtain ⟨a1, a2⟩ := hi
  obtain ⟨l1, e1⟩ := List.getElem?_eq_some_iff.mp a1
  have d1 : ps.drop i = e.1 :: ps.drop (i + 1) := by rw [List.drop_eq_getElem_cons l1, e1]
  by_cases h : i + 1 < ps.length
  · rw [List.getElem?_append_left (by rw [List.length_drop]; omega), List.getElem?_drop] at a2
    obtain ⟨l2, e2⟩ := List.getElem?_eq_some_iff.mp a2
    have d2 : ps.drop (i + 1) = e.2 :: ps.drop (i + 2) := by
      rw [List.drop_eq_getElem_cons h]
      congr 1
      rw [← e2]
      congr 1
      omega
    exact ⟨ps.take i, ps.drop i, ps.drop (i + 2) ++ ps.take i, (List.take_append_drop i ps).symm, by rw [d1, d2]; rfl⟩
  · rw [List.getElem?_append_right (by rw [List.length_drop]; omega), List.length_drop, show i - (ps.length - 1) = 0 by omega, List.getElem?_take_of_lt (by decide)] at a2
    have d2 : ps.drop (i + 1) = [] := List.drop_eq_nil_of_le (by omega)
    obtain ⟨k, hk⟩ : ∃ k, i = k + 1 := ⟨i - 1, by omega⟩
    rcases ps with _ | ⟨p, ps⟩
    · simp at h2
    · rw [List.getElem?_cons_zero] at a2
      cases a2
      exact ⟨(e.2 :: ps).take i, (e.2 :: ps).drop i, ps.take k, (List.take_append_drop i _).symm, by rw [d1, d2, hk]; rfl⟩
theorem eds_pos {ps u v : List PP} {a : PP} (h2 : 2 ≤ ps.length) (h : ps = u ++ a :: v) : ∃ b l, (a, b) ∈ eds ps ∧ a :: v ++ u = a :: b :: l := by
  have ha : ps[u.length]? = some a := by rw [h]; simp
  rcases v with _ | ⟨b, v⟩
  · rcases u with _ | ⟨b, u⟩
    · rw [h] at h2
      simp at h2
    · refine ⟨b, u, List.mem_of_getElem? (eds_at ha ?_), rfl⟩
      rw [if_neg (by rw [h]; simp), h]
      rfl
  · refine ⟨b, v ++ u, List.mem_of_getElem? (eds_at ha ?_), rfl⟩
    rw [if_pos (by rw [h]; simp), h]
    simp
theorem filt_comm {α : Type} (p : α → Bool) (u v : List α) : ((u ++ v).filter p).length = ((v ++ u).filter p).length := by
  rw [List.filter_append, List.filter_append, List.length_append, List.length_append]
  omega
/-- the edge from a to b, first of all -/
theorem edge_first {a b : PP} {l : List PP} : ((a :: b :: l).filter (leftB (a, b))).length = (l.filter (leftB (a, b))).length := by
  rw [List.filter_cons_of_neg (by rw [left_dec, tri_one]; decide), List.filter_cons_of_neg (by rw [left_dec, tri_two]; decide)]
theorem cvx_goes {ps : List PP} (h2 : 2 ≤ ps.length) (h : Cvx ps) : goesB ps = true := by
  unfold goesB
  rw [List.all_eq_true]
  intro e he
  obtain ⟨u, v, l, e1, e2⟩ := eds_split h2 he
  have c := cvx_rot u v (e1 ▸ h)
  rw [e2] at c
  unfold edgeB
  rw [beq_iff_eq, e1, filt_comm, e2, List.length_append, Nat.add_comm, ← List.length_append, e2]
  have := edge_first (a := e.1) (b := e.2) (l := l)
  rw [this, List.filter_eq_self.mpr]
  · rfl
  · intro x hx
    rw [left_dec]
    exact decide_eq_true ((List.pairwise_cons.mp c.1).1 x hx)
/-- the law's own words -/
def LawB (ps : List PP) : Prop := (∀ e ∈ eds ps, e.1 ≠ e.2 ∧ ∀ x ∈ ps, x ≠ e.1 → x ≠ e.2 → 0 < tri e.1 e.2 x) ∧ ps.Nodup
theorem goes_rest {ps : List PP} (h : goesB ps = true) {e : PP × PP} (he : e ∈ eds ps) {u v l : List PP} (e1 : ps = u ++ v) (e2 : v ++ u = e.1 :: e.2 :: l) : ∀ x ∈ l, 0 < tri e.1 e.2 x := by
  have h1 := List.all_eq_true.mp h e he
  unfold edgeB at h1
  rw [beq_iff_eq, e1, filt_comm, e2, List.length_append, Nat.add_comm, ← List.length_append, e2] at h1
  have := edge_first (a := e.1) (b := e.2) (l := l)
  rw [this] at h1
  have hl : (l.filter (leftB (e.1, e.2))).length = l.length := h1
  have hs : l.filter (leftB (e.1, e.2)) = l := List.filter_sublist.eq_of_length hl
  intro x hx
  have := List.filter_eq_self.mp hs x hx
  rw [left_dec] at this
  exact of_decide_eq_true this
theorem nodup_of {α : Type} : ∀ (ps : List α), (∀ u a v, ps = u ++ a :: v → a ∉ v) → ps.Nodup
  | [], _ => List.nodup_nil
  | a :: ps, h => List.nodup_cons.mpr ⟨h [] a ps rfl, nodup_of ps fun u b v e => h (a :: u) b v (by rw [e]; rfl)⟩
theorem goes_law {ps : List PP} (h3 : 3 ≤ ps.length) : goesB ps = true ↔ LawB ps := by
  constructor
  · intro h
    refine ⟨fun e he => ⟨fun z => ?_, fun x hx n1 n2 => ?_⟩, nodup_of ps fun u a v e1 hv => ?_⟩
    · obtain ⟨u, v, l, e1, e2⟩ := eds_split (by omega) he
      have hl := goes_rest h he e1 e2
      rcases l with _ | ⟨c, l⟩
      · have : (v ++ u).length = 2 := by rw [e2]; rfl
        rw [e1, List.length_append] at h3
        rw [List.length_append] at this
        omega
      · have := hl c (by simp)
        rw [← z, tri_eq] at this
        simp at this
    · obtain ⟨u, v, l, e1, e2⟩ := eds_split (by omega) he
      refine goes_rest h he e1 e2 x ?_
      have : x ∈ v ++ u := by
        rw [e1] at hx
        simp only [List.mem_append] at hx ⊢
        exact hx.symm
      rw [e2] at this
      simp only [List.mem_cons] at this
      rcases this with z | z | z
      · exact absurd z n1
      · exact absurd z n2
      · exact z
    · obtain ⟨b, l, hb, e2⟩ := eds_pos (by omega) e1
      have hl := goes_rest h hb (u := u) (v := a :: v) e1 e2
      have ha : a ∈ b :: l := by
        have e3 : v ++ u = b :: l := List.cons.inj e2 |>.2
        rw [← e3]
        exact List.mem_append_left _ hv
      rcases List.mem_cons.mp ha with z | z
      · subst z
        rcases l with _ | ⟨c, l⟩
        · have : (a :: v ++ u).length = 2 := by rw [e2]; rfl
          rw [e1] at h3
          simp at this h3
          omega
        · have := hl c (by simp)
          rw [tri_eq] at this
          simp at this
      · have := hl a z
        rw [tri_one] at this
        omega
  · rintro ⟨h, nd⟩
    unfold goesB
    rw [List.all_eq_true]
    intro e he
    obtain ⟨u, v, l, e1, e2⟩ := eds_split (by omega) he
    obtain ⟨ne, hx⟩ := h e he
    have nd2 : (v ++ u).Nodup := (List.perm_append_comm (l₁ := u) (l₂ := v)).nodup_iff.mp (e1 ▸ nd)
    rw [e2] at nd2
    obtain ⟨n1, nd3⟩ := List.nodup_cons.mp nd2
    obtain ⟨n2, _⟩ := List.nodup_cons.mp nd3
    unfold edgeB
    rw [beq_iff_eq, e1, filt_comm, e2, List.length_append, Nat.add_comm, ← List.length_append, e2]
    have := edge_first (a := e.1) (b := e.2) (l := l)
    rw [this, List.filter_eq_self.mpr]
    · rfl
    · intro x hxl
      rw [left_dec]
      refine decide_eq_true (hx x ?_ (fun z => n1 (by rw [← z]; exact List.mem_cons_of_mem _ hxl)) (fun z => n2 (by rw [← z]; exact hxl)))
      have : x ∈ v ++ u := by rw [e2]; simp [hxl]
      rw [e1]
      simp only [List.mem_append] at this ⊢
      exact this.symm
end My

namespace My
theorem cvx_append : ∀ (l m : List PP), Cvx (l ++ m) ↔ Cvx l ∧ Cvx m ∧ (∀ a ∈ l, m.Pairwise fun b c => 0 < tri a b c) ∧ ∀ c ∈ m, l.Pairwise fun a b => 0 < tri a b c
  | [], m => ⟨fun h => ⟨trivial, h, (fun _ h => nomatch h), fun _ _ => .nil⟩, fun h => h.2.1⟩
  | x :: l, m => by
    show ((l ++ m).Pairwise _ ∧ Cvx (l ++ m)) ↔ _
    rw [cvx_append l m, List.pairwise_append]
    constructor
    · rintro ⟨⟨h1, h2, h3⟩, h4, h5, h6, h7⟩
      refine ⟨⟨h1, h4⟩, h5, fun a ha => ?_, fun c hc => List.pairwise_cons.mpr ⟨fun b hb => h3 b hb c hc, h7 c hc⟩⟩
      rcases List.mem_cons.mp ha with rfl | ha
      · exact h2
      · exact h6 a ha
    · rintro ⟨⟨h1, h4⟩, h5, h6, h7⟩
      exact ⟨⟨h1, h6 x (by simp), fun a ha b hb => (List.pairwise_cons.mp (h7 b hb)).1 a ha⟩, h4, h5, fun a ha => h6 a (List.mem_cons_of_mem _ ha), fun c hc => (List.pairwise_cons.mp (h7 c hc)).2⟩
def neg (a : PP) : PP := (-a.1, -a.2)
theorem tri_neg (a b c : PP) : tri (neg a) (neg b) (neg c) = tri a b c := by
  rw [tri_eq, tri_eq]
  unfold neg
  grind
theorem cvx_neg : ∀ (l : List PP), Cvx (l.map neg) ↔ Cvx l
  | [] => Iff.rfl
  | a :: l => by
    show ((l.map neg).Pairwise _ ∧ Cvx (l.map neg)) ↔ _
    rw [cvx_neg l, List.pairwise_map]
    simp only [tri_neg]
    rfl
theorem turns_neg : ∀ (l : List PP), Turns l → Turns (l.map neg)
  | [], _ => trivial
  | [_], _ => trivial
  | [_, _], _ => trivial
  | a :: b :: c :: l, h => ⟨by rw [tri_neg]; exact h.1, turns_neg (b :: c :: l) h.2⟩
theorem lex_neg {a b : PP} : lexB (neg a) (neg b) ↔ lexB b a := by
  unfold lexB neg
  simp only
  omega
theorem lex_x {a b : PP} (h : lexB a b) : a.1 ≤ b.1 := by
  unfold lexB at h
  omega
/-- a chain that goes up from A to B, and q on the other side of it -/
theorem mixed {A B q : PP} {M : List PP} (ord : (A :: M ++ [B]).Pairwise lexB) (c : Cvx (A :: M ++ [B])) (q1 : A.1 ≤ q.1) (q2 : q.1 ≤ B.1) (t : 0 < tri A B q) : (A :: M).Pairwise fun a b => 0 < tri a b q := by
  obtain ⟨c1, c2⟩ := (cvx_snoc (A :: M)).mp c
  obtain ⟨o1, _, o2⟩ := List.pairwise_append.mp ord
  have fA : (A :: M).Pairwise fun a b => 0 ≤ tri a b A := List.pairwise_cons.mpr ⟨fun b _ => by rw [tri_one]; omega, c1.1.imp fun {a b} h => by rw [tri_cyc]; omega⟩
  have aA : ∀ a ∈ A :: M, A.1 ≤ a.1 := fun a ha => by
    rcases List.mem_cons.mp ha with rfl | ha
    · omega
    · exact lex_x ((List.pairwise_cons.mp o1).1 a ha)
  refine ((o1.and c2).and fA).imp_of_mem fun {a b} ha hb h => ?_
  obtain ⟨⟨l, tB⟩, tA⟩ := h
  have xB := lex_x (o2 b hb B (by simp))
  have xA := aA a ha
  have lt : a.1 < b.1 := by
    rcases l with l | ⟨l, l'⟩
    · exact l
    · rw [tri_eq, l, Int.sub_self, Int.zero_mul] at tB
      have := Int.mul_nonneg (show 0 ≤ b.2 - a.2 by omega) (show 0 ≤ B.1 - b.1 by omega)
      omega
  have e : (B.1 - A.1) * tri a b q = ((B.1 - q.1) * tri a b A + (q.1 - A.1) * tri a b B) + tri A B q * (b.1 - a.1) := by
    simp only [tri_eq]
    grind
  have s1 := Int.mul_nonneg (show 0 ≤ B.1 - q.1 by omega) tA
  have s2 := Int.mul_nonneg (show 0 ≤ q.1 - A.1 by omega) (show 0 ≤ tri a b B by omega)
  have s3 := Int.mul_pos t (show 0 < b.1 - a.1 by omega)
  exact pos_of (show 0 < B.1 - A.1 by omega) (by rw [e]; omega)
theorem hull_cvx {A B : PP} {L U : List PP} (lo : (A :: L ++ [B]).Pairwise lexB) (tl : Turns (A :: L ++ [B])) (uo : (B :: U ++ [A]).Pairwise fun a b => lexB b a) (tu : Turns (B :: U ++ [A])) : Cvx ((A :: L) ++ (B :: U)) := by
  have cl := cvx_of _ lo tl
  have uo' : ((B :: U ++ [A]).map neg).Pairwise lexB := by
    rw [List.pairwise_map]
    exact uo.imp fun {a b} h => lex_neg.mpr h
  have cu' := cvx_of _ uo' (turns_neg _ tu)
  have cu := (cvx_neg _).mp cu'
  obtain ⟨cl1, cl2⟩ := (cvx_snoc (A :: L)).mp cl
  obtain ⟨cu1, cu2⟩ := (cvx_snoc (B :: U)).mp cu
  obtain ⟨lo1, _, lo2⟩ := List.pairwise_append.mp lo
  obtain ⟨uo1, _, uo2⟩ := List.pairwise_append.mp uo
  rw [cvx_append]
  refine ⟨cl1, cu1, fun a ha => ?_, fun c hc => ?_⟩
  · rcases List.mem_cons.mp ha with rfl | ha
    · exact cu2.imp fun {b c} h => by rw [← tri_cyc]; exact h
    · have m := mixed (A := neg B) (B := neg A) (q := neg a) (M := U.map neg) (by simpa using uo') (by simpa using cu')
        (by have := lex_x (lo2 a (List.mem_cons_of_mem _ ha) B (by simp)); show -B.1 ≤ -a.1; omega) (by have := lex_x ((List.pairwise_cons.mp lo1).1 a ha); show -a.1 ≤ -A.1; omega)
        (by rw [tri_neg, tri_cyc a B A, tri_cyc A a B]; exact (List.pairwise_cons.mp cl2).1 a ha)
      have m : ((B :: U).map neg).Pairwise fun x y => 0 < tri x y (neg a) := m
      rw [List.pairwise_map] at m
      exact m.imp fun {b c} h => by rw [tri_neg] at h; rw [← tri_cyc]; exact h
  · rcases List.mem_cons.mp hc with rfl | hc
    · exact cl2
    · refine mixed lo cl (lex_x (uo2 c (List.mem_cons_of_mem _ hc) A (by simp))) (lex_x ((List.pairwise_cons.mp uo1).1 c hc)) ?_
      have := (List.pairwise_cons.mp cu2).1 c hc
      rw [← tri_cyc A B c]
      exact this
theorem turns_add {x y z : PP} : ∀ {s : List PP}, Turns (s ++ [x, y]) → 0 < tri x y z → Turns (s ++ [x, y, z])
  | [], _, h => ⟨h, trivial⟩
  | [a], t, h => ⟨t.1, h, trivial⟩
  | a :: b :: s, t, h => by
    have ih := turns_add (s := b :: s) (x := x) (y := y) (z := z) (turns_tail t) h
    rcases s with _ | ⟨c, s⟩
    · exact ⟨t.1, ih⟩
    · exact ⟨t.1, ih⟩
theorem turns_drop {x : PP} : ∀ {s : List PP}, Turns (s ++ [x]) → Turns s
  | [], _ => trivial
  | [_], _ => trivial
  | [_, _], _ => trivial
  | a :: b :: c :: s, t => ⟨t.1, turns_drop (s := b :: c :: s) (x := x) t.2⟩
end My

namespace My
/-- a chain that is being built of the first i of W -/
structure Mid (rel : PP → PP → Prop) (W : List PP) (i : Nat) (s : List PP) : Prop where
  ord : s.Pairwise rel
  tur : Turns s
  sub : ∀ x ∈ s, x ∈ W.take i
  hd : 0 < i → s.head? = W.head?
structure Sd (rel : PP → PP → Prop) (W : List PP) (i : Nat) (s : List PP) : Prop where
  mid : Mid rel W i s
  lt : 0 < i → s.getLast? = (W.take i).getLast?
theorem Mid.pop {rel : PP → PP → Prop} {W s : List PP} {i : Nat} (h : Mid rel W i s) (l : 1 < s.length) : Mid rel W i s.dropLast := by
  rcases List.eq_nil_or_concat s with e | ⟨t, x, e⟩
  · rw [e] at l; simp at l
  · rw [List.concat_eq_append] at e
    subst e
    rw [List.dropLast_concat]
    refine ⟨(List.pairwise_append.mp h.ord).1, turns_drop h.tur, fun y hy => h.sub y (List.mem_append_left _ hy), fun hi => ?_⟩
    rw [← h.hd hi]
    rcases t with _ | ⟨y, t⟩
    · simp at l
    · rfl
theorem Mid.push {rel : PP → PP → Prop} {W s : List PP} {i : Nat} {w : PP} (h : Mid rel W i s) (hW : W.Pairwise rel) (hw : W[i]? = some w) (c : s.length ≤ 1 ∨ ∃ t x y, s = t ++ [x, y] ∧ 0 < tri x y w) : Sd rel W (i + 1) (s ++ [w]) := by
  obtain ⟨hi, ew⟩ := List.getElem?_eq_some_iff.mp hw
  have tk : W.take (i + 1) = W.take i ++ [w] := by rw [List.take_succ, hw]; rfl
  have before : ∀ x ∈ W.take i, rel x w := fun x hx => by
    have := List.Pairwise.sublist (List.take_sublist (i + 1) W) hW
    rw [tk] at this
    exact (List.pairwise_append.mp this).2.2 x hx w (by simp)
  refine ⟨⟨List.pairwise_append.mpr ⟨h.ord, List.pairwise_singleton _ _, fun x hx y hy => by rw [List.mem_singleton.mp hy]; exact before x (h.sub x hx)⟩, ?_, fun x hx => ?_, fun _ => ?_⟩, fun _ => ?_⟩
  · rcases c with c | ⟨t, x, y, rfl, c⟩
    · rcases s with _ | ⟨a, _ | ⟨b, s⟩⟩
      · trivial
      · trivial
      · simp at c
    · rw [List.append_assoc]
      exact turns_add h.tur c
  · rw [tk]
    rcases List.mem_append.mp hx with z | z
    · exact List.mem_append_left _ (h.sub x z)
    · exact List.mem_append_right _ z
  · rcases Nat.eq_zero_or_pos i with z | z
    · subst z
      have : s = [] := by
        rcases s with _ | ⟨a, s⟩
        · rfl
        · have := h.sub a (by simp)
          simp at this
      subst this
      show some w = W.head?
      rw [List.head?_eq_getElem?, hw]
    · have := h.hd z
      rcases s with _ | ⟨a, s⟩
      · rw [List.head?_nil] at this
        rw [List.head?_eq_getElem?, List.getElem?_eq_getElem (show 0 < W.length by omega)] at this
        cases this
      · exact this
  · rw [tk, List.getLast?_concat, List.getLast?_concat]
theorem Sd.none {rel : PP → PP → Prop} {W : List PP} : Mid rel W 0 [] := ⟨.nil, trivial, (fun _ h => nomatch h), fun h => by omega⟩
theorem ends {s : List PP} {A B : PP} (h : s.head? = some A) (k : s.getLast? = some B) (ne : A ≠ B) : ∃ L, s = A :: L ++ [B] := by
  rcases s with _ | ⟨a, s⟩
  · cases h
  · cases h
    rcases List.eq_nil_or_concat s with e | ⟨t, x, e⟩
    · subst e
      cases k
      exact absurd rfl ne
    · rw [List.concat_eq_append] at e
      subst e
      have e2 : A :: (t ++ [x]) = (A :: t) ++ [x] := rfl
      rw [e2, List.getLast?_concat] at k
      cases k
      exact ⟨t, rfl⟩
theorem lex_irr {a : PP} : ¬ lexB a a := by
  unfold lexB
  omega
theorem hull_final {R low up : List PP} (ord : R.Pairwise lexB) (hl : Sd lexB R R.length low) (hu : Sd (fun a b => lexB b a) R.reverse R.length up) : Cvx (low.dropLast ++ up.dropLast) := by
  rcases R with _ | ⟨A, _ | ⟨C, R⟩⟩
  · have e1 : low = [] := by
      rcases low with _ | ⟨a, s⟩
      · rfl
      · have := hl.mid.sub a (by simp)
        simp at this
    have e2 : up = [] := by
      rcases up with _ | ⟨a, s⟩
      · rfl
      · have := hu.mid.sub a (by simp)
        simp at this
    rw [e1, e2]
    trivial
  · have one : ∀ {rel : PP → PP → Prop} {s : List PP}, (∀ a, ¬ rel a a) → s.Pairwise rel → (∀ x ∈ s, x = A) → s.dropLast = [] := fun irr o sub => by
      rename_i s
      rcases s with _ | ⟨a, _ | ⟨b, s⟩⟩
      · rfl
      · rfl
      · have h1 := sub a (by simp)
        have h2 := sub b (by simp)
        have := (List.pairwise_cons.mp o).1 b (by simp)
        rw [h1, h2] at this
        exact absurd this (irr A)
    rw [one (fun _ => lex_irr) hl.mid.ord (fun x hx => by simpa using hl.mid.sub x hx), one (rel := fun a b => lexB b a) (fun _ => lex_irr) hu.mid.ord (fun x hx => by simpa using hu.mid.sub x hx)]
    trivial
  · obtain ⟨B, hB⟩ : ∃ B, (C :: R).getLast? = some B := by
      exact ⟨_, List.getLast?_eq_some_getLast (by simp)⟩
    have mB := List.mem_of_getLast? hB
    have AB := (List.pairwise_cons.mp ord).1 B mB
    have ne : A ≠ B := fun z => by rw [z] at AB; exact lex_irr AB
    have lastR : (A :: C :: R).getLast? = some B := by
      rw [List.getLast?_cons_cons]
      exact hB
    obtain ⟨L, hL⟩ := ends (A := A) (B := B) ((hl.mid.hd (by simp)).trans rfl) ((hl.lt (by simp)).trans (by rw [List.take_length]; exact lastR)) ne
    have hr : (A :: C :: R).reverse.head? = some B := by rw [List.head?_reverse]; exact lastR
    have hr2 : (A :: C :: R).reverse.getLast? = some A := by rw [List.getLast?_reverse]; rfl
    obtain ⟨U, hU⟩ := ends (A := B) (B := A) ((hu.mid.hd (by simp)).trans hr) ((hu.lt (by simp)).trans (by rw [List.take_of_length_le (by simp)]; exact hr2)) (Ne.symm ne)
    have lo := hl.mid.ord
    have tl := hl.mid.tur
    have uo := hu.mid.ord
    have tu := hu.mid.tur
    rw [hL] at lo tl
    rw [hU] at uo tu
    rw [hL, hU, List.dropLast_concat, List.dropLast_concat]
    exact hull_cvx lo tl uo tu
end My

namespace G
open PySem PySem.Spec PyProof.Rows L2

/-! ### sorted(set) of pairs of ints, of either sign -/
/-- where a pair stands -/
def rk2 : List Int → Int
  | [x, y] => x * 4096 + y
  | _ => 0
/-- a pair whose second int is not too far -/
def Near2 (ns : List Int) : Prop := ∃ x y, ns = [x, y] ∧ -2048 < y ∧ y < 2048
theorem rk2_lt {x y x' y' : Int} (h1 : -2048 < y ∧ y < 2048) (h2 : -2048 < y' ∧ y' < 2048) : rk2 [x, y] < rk2 [x', y'] ↔ (x < x' ∨ (x = x' ∧ y < y')) := by
  show x * 4096 + y < x' * 4096 + y' ↔ _
  omega
section
variable {prog : Program} {w : World} {A : Around} {E : Value → Shared → Prop} {s : Shared}
theorem lex_two {b : Bool} {x y x' y' : Int} {t u t' u' : Tok} {Q : Bool → Shared → Prop} (h1 : -2048 < y ∧ y < 2048) (h2 : -2048 < y' ∧ y' < 2048) (q : Q (decide (rk2 [x, y] < rk2 [x', y'])) s) :
    PySem.W.KatLex prog w A b false Q [(Value.int x t, Value.int x' t'), (Value.int y u, Value.int y' u')] 0 s := by
  refine PySem.W.kat_cons (wpAny_eqBool_int ?_)
  by_cases e : x = x'
  · rw [beq_iff_eq.mpr e]
    refine PySem.W.kat_yes (PySem.W.kat_cons (wpAny_eqBool_int ?_))
    by_cases f : y = y'
    · rw [beq_iff_eq.mpr f]
      refine PySem.W.kat_yes (PySem.W.kat_nil ?_)
      rw [decide_eq_false (by rw [rk2_lt h1 h2]; omega)] at q
      exact q
    · rw [beq_eq_false_iff_ne.mpr f]
      refine PySem.W.kat_no (TS.oneLt_ints _ ?_)
      rw [show decide (rk2 [x, y] < rk2 [x', y']) = decide (y < y') from decide_eq_decide.mpr (by rw [rk2_lt h1 h2]; omega)] at q
      exact q
  · rw [beq_eq_false_iff_ne.mpr e]
    refine PySem.W.kat_no (TS.oneLt_ints _ ?_)
    rw [show decide (rk2 [x, y] < rk2 [x', y']) = decide (x < x') from decide_eq_decide.mpr (by rw [rk2_lt h1 h2]; omega)] at q
    exact q
/-- these values are such pairs -/
def Twos (h : Heap) (vs : List Value) : Prop := ∀ v ∈ vs, ∃ ns, TS.TupInts h v ns ∧ Near2 ns
theorem two_items {xs : List Value} {x y : Int} (i : IntsAre xs [x, y]) : ∃ t u, xs = [Value.int x t, Value.int y u] := by
  cases i with
  | cons _ _ j => cases j with
    | cons _ _ k => cases k; exact ⟨_, _, rfl⟩
theorem twos_first {h : Heap} : ∀ (vs : List Value), Twos h vs → ∃ fs, PySem.W.KatTups h vs fs ∧ fs.length = vs.length ∧ ∀ f ∈ fs, ∃ n t, f = Value.int n t
  | [], _ => ⟨[], .nil, rfl, fun _ z => nomatch z⟩
  | v :: vs, k => by
    obtain ⟨fs, r1, r2, r3⟩ := twos_first vs fun u hu => k u (List.mem_cons_of_mem _ hu)
    obtain ⟨_, ⟨a, xs, rfl, ⟨o, g1, g2, n, g3⟩, i⟩, x, y, rfl, _⟩ := k v (by simp)
    obtain ⟨t, u, e⟩ := two_items i
    refine ⟨Value.int x t :: fs, .cons g1 g2 g3 ?_ r1, by simp [r2], fun f hf => ?_⟩
    · rw [← Array.getElem?_toList, e]
      rfl
    · rcases List.mem_cons.mp hf with z | z
      · exact ⟨x, t, z⟩
      · exact r3 f z
theorem kind_two {vs : List Value} {Q : SortKind → Shared → Prop} (l : 2 ≤ vs.length) (k : Twos s.heap vs) (r : Value → Int) (hr : ∀ v ∈ vs, ∀ ns, TS.TupInts s.heap v ns → r v = rk2 ns)
    (q : ∀ κ, TS.Cmp prog w A s κ (pairsOf vs) r → Q κ s) : wpAny (model prog w) A (keyKind' vs.toArray) Q E s := by
  obtain ⟨fs, r1, r2, r3⟩ := twos_first vs k
  refine PySem.W.kat_kind (T := Value.type "int") r1 (by omega) (fun f hf => ?_) rfl (q _ fun p p' hp hp' Q' E' z => ?_)
  · obtain ⟨n, t, rfl⟩ := r3 f hf
    exact PySem.W.Looks.of_pure rfl
  · rw [pairsOf_toList] at hp hp'
    have m := (mem_zip_self hp).2
    have m' := (mem_zip_self hp').2
    obtain ⟨ns, t1, n1⟩ := k _ m
    obtain ⟨ns', t2, n2⟩ := k _ m'
    rw [hr _ m _ t1, hr _ m' _ t2] at z
    obtain ⟨x, y, rfl, b1⟩ := n1
    obtain ⟨x', y', rfl, b2⟩ := n2
    obtain ⟨a, xs, e, ⟨o, g1, _, n, g3⟩, i⟩ := t1
    obtain ⟨a', xs', e', ⟨o', g1', _, n', g3'⟩, i'⟩ := t2
    rw [e, e']
    obtain ⟨t, u, f⟩ := two_items i
    obtain ⟨t', u', f'⟩ := two_items i'
    refine PySem.W.kat_lt g1 g3 g1' g3' ?_
    have c : decide (xs.size < xs'.size) = false := by
      rw [← Array.length_toList, ← Array.length_toList, f, f']
      rfl
    rw [c, f, f']
    exact lex_two b1 b2 z
theorem sort_two {a : Addr} {vs : List Value} {n : Nat} {Q : Value → Shared → Prop} (ho : s.heap.get? a = some (seqObj "list" vs.toArray n)) (l : vs.length < 64) (k : Twos s.heap vs)
    (q : ∀ out : Array Value, out.toList.Perm vs → out.toList.Pairwise (fun u v => rk2 (TS.intsOf s.heap u) ≤ rk2 (TS.intsOf s.heap v)) → Q .none { s with heap := sortedHeap s.heap a vs out }) :
    wpAny (model prog w) A (call (.builtin "list.sort") [.ref a]) Q E s := by
  have old : ∀ b o, s.heap.get? b = some o → o.cls = .type "tuple" → (TS.midHeap s.heap a vs).get? b = some o := fun b o e hc => TS.midHeap_old (fun z => by
    rw [z, ho] at e
    cases e
    injection hc with hc
    exact absurd hc (by decide)) e
  refine wpAny_call_entry slot_list_sort ⟨_, ho, rfl⟩ entry_list_sort (SK.plain_sort (r := fun v => rk2 (TS.intsOf s.heap v)) ho l (fun l2 Q' z => ?_) fun ps out h1 h2 h3 => ?_) (args_list_sort _)
  · refine kind_two (s := { s with heap := TS.midHeap s.heap a vs }) l2 (fun v hv => ?_) _ (fun v hv ns t => ?_) z
    · obtain ⟨ns, t, b⟩ := k v hv
      exact ⟨ns, t.keeps old, b⟩
    · obtain ⟨ns0, t0, _⟩ := k v hv
      show rk2 (TS.intsOf s.heap v) = rk2 ns
      rw [t0.ints, ← t.ints, (t0.keeps old).ints]
  · obtain ⟨p, o⟩ := TS.out_rank (r := fun v => rk2 (TS.intsOf s.heap v)) h1 h2 h3
    exact ⟨_, rfl, q out p o⟩
end
theorem perm_back {α β : Type} {f : α → β} {l m : List β} (h : l.Perm m) : ∀ (L : List α), m = L.map f → ∃ K : List α, l = K.map f ∧ K.Perm L := by
  induction h with
  | nil => exact fun L e => ⟨[], rfl, by rw [List.map_eq_nil_iff.mp e.symm]⟩
  | cons x _ ih =>
    intro L e
    rcases L with _ | ⟨y, L⟩
    · cases e
    · rw [List.map_cons, List.cons.injEq] at e
      obtain ⟨K, k1, k2⟩ := ih L e.2
      exact ⟨y :: K, by rw [List.map_cons, ← e.1, k1], k2.cons y⟩
  | swap x y l =>
    intro L e
    rcases L with _ | ⟨u, _ | ⟨v, L⟩⟩
    · cases e
    · cases e
    · rw [List.map_cons, List.map_cons, List.cons.injEq, List.cons.injEq] at e
      obtain ⟨e1, e2, e3⟩ := e
      exact ⟨v :: u :: L, by rw [List.map_cons, List.map_cons, e1, e2, e3], .swap u v L⟩
  | trans _ _ i1 i2 =>
    intro L e
    obtain ⟨K, k1, k2⟩ := i2 L e
    obtain ⟨M, m1, m2⟩ := i1 K k1
    exact ⟨M, m1, m2.trans k2⟩
section
variable {P : Program} {w : World} {A : Around} {E : Value → Shared → Prop} {s : Shared}
theorem sorted_set2 {a : Addr} {L : List (Addr × List Int)} {es : Array (Int × Value)} {ep : Nat} {t : SetTable} {Q : Value → Shared → Prop} (R : SetTR P w s.heap a L es ep t) (hh : A.handled = none) (near : ∀ p ∈ L, Near2 p.2)
    (q : ∀ s' p (out : Array Value) (c : Nat) (K : List (Addr × List Int)), (∀ b o, s.heap.get? b = some o → s'.heap.get? b = some o) → s'.gens = s.gens → s'.os = s.os → s.heap.objs.size ≤ p → s'.heap.get? p = some (seqObj "list" out c) →
      out.toList = K.map (fun q => Value.ref q.1) → K.Perm L → K.Pairwise (fun q r => rk2 q.2 ≤ rk2 r.2) → Q (.ref p) s') :
    wpAny (model P w) A (call (.builtin "sorted") [.ref a]) Q E s := by
  have few := R.few
  have sz := R.size
  obtain ⟨o, ho, ex, hd⟩ := R.ob
  apply Calls.call_function_entry kind_sorted plain_sorted entry_sorted (args_sorted1 _)
  unfold Builtin.«sorted»
  apply wpAny_bind (m := checkCount "sorted" 1 1 _)
  apply wpAny_pure
  apply wpAny_bind
  refine collect_set (A := A.in1) hh ⟨o, ho, ex.1, hd⟩ R.fits (by unfold scanBound; omega) R.tab.ris R.led fun s1 vs k1 hz g1 o1 pm => ?_
  have rows : es.toList.map (·.2) = L.map fun q => Value.ref q.1 := by
    rw [R.rows]
    show (rowsOf P w L).map _ = _
    unfold rowsOf
    rw [List.map_map]
    rfl
  rw [rows] at pm
  have lv : vs.length = L.length := by rw [pm.length_eq, List.length_map]
  apply wpAny_bind
  refine wpAny_newList ?_ (by rw [sizeLine_eq]; omega)
  have here : (s1.heap.push (seqObj "list" vs.toArray 0)).get? s1.heap.objs.size = some (seqObj "list" vs.toArray 0) := Heap.get?_push_size _ rfl
  have tup : ∀ q ∈ L, TS.TupInts (s1.heap.push (seqObj "list" vs.toArray 0)) (.ref q.1) q.2 := fun q hq => tupInts_of (P := P) (w := w) (isT_keep (R.tup q hq) fun b u e => Heap.get?_push_of_some _ (k1 b u e))
  have twos : Twos (s1.heap.push (seqObj "list" vs.toArray 0)) vs := fun v hv => by
    obtain ⟨q, hq, rfl⟩ := List.mem_map.mp (pm.mem_iff.mp hv)
    exact ⟨q.2, tup q hq, near q hq⟩
  apply wpAny_bind
  apply wpAny_holding
  refine sort_two (s := { s1 with heap := s1.heap.push (seqObj "list" vs.toArray 0) }) here (by omega) twos fun out a1 a2 => ?_
  obtain ⟨c, hc⟩ := sortedHeap_at (vs := vs) (out := out) here
  obtain ⟨K, e1, e2⟩ := perm_back (a1.trans pm) L rfl
  refine wpAny_pure ⟨_, rfl, q _ s1.heap.objs.size out c K (fun b u e => ?_) g1 o1 hz hc e1 e2 ?_⟩
  · have e' := k1 b u e
    have lt := Heap.lt_size e'
    show (sortedHeap (s1.heap.push (seqObj "list" vs.toArray 0)) s1.heap.objs.size vs out).get? b = some u
    rw [sortedHeap_old (Nat.ne_of_lt lt) (by rw [size_push']; exact Nat.lt_succ_of_lt lt)]
    exact Heap.get?_push_of_some _ e'
  · rw [e1] at a2
    refine (List.pairwise_map.mp a2).imp_of_mem fun {x y} hx hy h => ?_
    rw [(tup x (e2.mem_iff.mp hx)).ints, (tup y (e2.mem_iff.mp hy)).ints] at h
    exact h
end
section
variable {X : Cx}
/-- sorted(set), pairs of ints, the second of each not too far from 0 -/
def rSorted2 (K : PySem.W.Frag) (P : Program) (w : World) : List V → Hp → VK → Prop := fun vs H Q => ∃ (a : Addr) (L : List (Addr × List Int)), vs = [V.ref a] ∧ H a = some (SetTO P w a L) ∧ (∀ p ∈ L, SqT K H p.1 (p.2.map V.int) ∧ Near2 p.2) ∧
  ∀ (M : List (Addr × List Int)) (p : Addr), M.Perm L → (M.map (·.2)).Nodup → M.length < 64 → M.Pairwise (fun q r => rk2 q.2 ≤ rk2 r.2) → H p = none → Q (.ref p) (upd H p (.lst (M.map fun q => V.ref q.1)))
theorem cr_sorted2 (hc : X.calm = true) : CallR X (.builtin "sorted") (rSorted2 X.K X.prog X.w) := by
  rintro pins s σ H vs us Q I r ⟨a, L, rfl, ha, hk, q⟩
  obtain ⟨es, ep, t, R⟩ := SetT0.full (show SetT0 X.prog X.w s.heap a L from (I.hok a _ ha).1) fun p hp => I.isT (hk p hp).1
  rw [Vals.ref1 r]
  refine sorted_set2 R (I.ok.hd hc) (fun p hp => (hk p hp).2) fun s' p out c M k g o hp hg hout pm pw => ?_
  have few : M.length < 64 := by rw [pm.length_eq]; exact R.few
  have hn : H p = none := I.hok.fresh hp
  have J : Inv X pins σ (upd H p (.lst (M.map fun q => V.ref q.1))) { s with heap := s'.heap, gens := s'.gens, drawn := s'.drawn, toks := s'.toks } :=
    I.call (ch := []) (Un.laid k hp hn) (I.hok.laid k hp ⟨by rw [List.length_map, sizeLine_eq]; omega, out.toList, c, by rw [hout]; exact vals_of_refs M, hg⟩) (by rw [g]; exact I.bare) (fun _ z => nomatch z)
  have e : { s with heap := s'.heap, gens := s'.gens, drawn := s'.drawn, toks := s'.toks } = s' := by
    cases s'
    cases s
    cases o
    rfl
  rw [e] at J
  exact ⟨.ref p, _, J, rfl, q M p pm ((pm.map (·.2)).nodup_iff.mpr R.nd) few pw hn⟩
end
end G

namespace My
open PySem PySem.Spec PyProof.Rows L2 G
abbrev s__law_hull : Stmt := topS 56
theorem sc__law_hull : FnScope ["_law_places_here", "_law_found", "_law_rows", "_law_way", "_law_side", "_law_place"] ["_law_places_here"] (defScope s__law_hull) := ⟨rfl, rfl, rfl, by decide +kernel, rfl, by decide +kernel, by decide +kernel⟩

def spHull : Sp := fun vs H Q _ => ∃ l us ps, vs = [.ref l] ∧ H l = some (.lst us) ∧ Pls H us ps ∧ us.length ≤ 20 ∧ (∀ x ∈ ps, Nr x) ∧ ∀ m ws qs H', H m = none → Same H H' → H' m = some (.lst ws) → Pls H' ws qs → Cvx qs → (∀ x ∈ qs, Nr x) → ws.length ≤ 200 → Q (.ref m) H'
def spCorners : Sp := fun vs H Q _ => ∃ (p m : Addr) (n : Nat) (us : List V) (ms : List (Int × Int)), vs = [.ref p, .ref m] ∧ PotAt H p n ∧ n ≤ 2000 ∧ H m = some (.lst us) ∧ m ≠ p ∧ Mks H us ms ∧ us.length = 3 ∧
  ∀ t ws qs H', Go p (n + 30) H H' → H' t = some (.tup ws) → Pls H' ws qs → Cvx qs → (∀ x ∈ qs, Nr x) → 3 ≤ ws.length → ws.length ≤ 8 → Q (.ref t) H'
theorem pls_ks {H : Hp} : ∀ {us : List V} {ps : List PP}, Pls H us ps → ∃ ks : List (Addr × List Int), us = ks.map (fun p => V.ref p.1) ∧ ks.map (·.2) = ps.map (fun x => [x.1, x.2]) ∧ ∀ p ∈ ks, H p.1 = some (.tup (p.2.map V.int))
  | _, _, .nil => ⟨[], rfl, rfl, fun _ h => nomatch h⟩
  | _, _, PySem.Paired.cons (b := x) h t => by
    obtain ⟨ks, e1, e2, e3⟩ := pls_ks t
    obtain ⟨b, rfl, hb⟩ := h
    refine ⟨(b, [x.1, x.2]) :: ks, by rw [e1]; rfl, by rw [List.map_cons, List.map_cons, e2], fun p hp => ?_⟩
    rcases List.mem_cons.mp hp with rfl | hp
    · exact hb
    · exact e3 p hp
def toP : List Int → PP
  | [x, y] => (x, y)
  | _ => (0, 0)
theorem near_of {x : PP} (h : Nr x) : Near2 [x.1, x.2] := ⟨x.1, x.2, rfl, by have := h.2; omega, by have := h.2; omega⟩
theorem cutV_dl (xs : List V) : cutV xs none (some (-1)) = xs.dropLast := by
  unfold cutV
  rw [HT.sIx_none, List.drop_zero, Nat.sub_zero, List.dropLast_eq_take]
  congr 1
  show (if (-1 : Int) < 0 then (-1 + (xs.length : Int)).toNat else min (-1 : Int).toNat xs.length) = xs.length - 1
  rw [if_pos (by decide)]
  omega
theorem pls_dl {H : Hp} {vs : List V} {xs : List PP} (h : Pls H vs xs) : Pls H vs.dropLast xs.dropLast := by
  have hl := h.length
  refine paired_of (by rw [List.length_dropLast, List.length_dropLast, hl]) fun i v x e1 e2 => ?_
  rw [List.dropLast_eq_take] at e1 e2
  obtain ⟨h1, k1⟩ := List.getElem?_eq_some_iff.mp e1
  rw [List.length_take] at h1
  rw [List.getElem?_take_of_lt (by omega)] at e1 e2
  obtain ⟨y, hy, p⟩ := paired_at h e1
  rw [hy] at e2
  cases e2
  exact p
theorem pls_rev {H : Hp} {vs : List V} {xs : List PP} (h : Pls H vs xs) : Pls H vs.reverse xs.reverse := by
  have hl := h.length
  refine paired_of (by rw [List.length_reverse, List.length_reverse, hl]) fun i v x e1 e2 => ?_
  obtain ⟨h1, _⟩ := List.getElem?_eq_some_iff.mp e1
  rw [List.length_reverse] at h1
  rw [List.getElem?_reverse h1] at e1
  rw [List.getElem?_reverse (by omega), ← hl] at e2
  obtain ⟨y, hy, p⟩ := paired_at h e1
  rw [hy] at e2
  cases e2
  exact p
theorem pls_app {H : Hp} {vs ws : List V} {xs ys : List PP} : Pls H vs xs → Pls H ws ys → Pls H (vs ++ ws) (xs ++ ys)
  | .nil, h => h
  | .cons a t, h => .cons a (pls_app t h)
theorem last_two {s : List PP} {X Y : PP} (h : 2 ≤ s.length) (hX : s[s.length - 2]? = some X) (hY : s[s.length - 1]? = some Y) : s = s.take (s.length - 2) ++ [X, Y] := by
  obtain ⟨h1, e1⟩ := List.getElem?_eq_some_iff.mp hX
  obtain ⟨h2, e2⟩ := List.getElem?_eq_some_iff.mp hY
  conv => lhs; rw [← List.take_append_drop (s.length - 2) s]
  rw [List.drop_eq_getElem_cons h1, e1]
  have : s.length - 2 + 1 = s.length - 1 := by omega
  rw [this, List.drop_eq_getElem_cons h2, e2, List.drop_eq_nil_of_le (by omega)]
/-- a list of what is left of R, read in one of two ways -/
theorem rows_ord {M : List (Addr × List Int)} (sub : ∀ q ∈ M, ∃ x : PP, q.2 = [x.1, x.2] ∧ Nr x) (nd : (M.map (·.2)).Nodup) (pw : M.Pairwise fun q r => rk2 q.2 ≤ rk2 r.2) : (M.map fun q => toP q.2).Pairwise lexB := by
  rw [List.pairwise_map]
  have nd' := List.pairwise_map.mp nd
  refine (pw.and nd').imp_of_mem fun {q r} hq hr h => ?_
  obtain ⟨x, ex, nx⟩ := sub q hq
  obtain ⟨y, ey, ny⟩ := sub r hr
  obtain ⟨h1, h2⟩ := h
  rw [ex, ey] at h1 h2 ⊢
  have h1 : x.1 * 4096 + x.2 ≤ y.1 * 4096 + y.2 := h1
  have h2 : ¬ (x.1 = y.1 ∧ x.2 = y.2) := fun z => h2 (by rw [z.1, z.2])
  have := nx.2
  have := ny.2
  show lexB (x.1, x.2) (y.1, y.2)
  unfold lexB
  show x.1 < y.1 ∨ (x.1 = y.1 ∧ x.2 < y.2)
  omega
section
variable {P : Program} {w : World} {K : PySem.W.Frag} {mg : Str → Option Value} {base : Heap} {a : Ad}
theorem ok__law_hull {fd : FuncData} (F : Fun K "_law_hull" "_law_hull" s__law_hull a._law_hull fd) (T : Txt K mg a)
    {fd__law_height : FuncData} (G__law_height : Fn P w K mg base CX0 1 a._law_height fd__law_height ["_law_one", "_law_other", "_law_dot"] spHeight) (b__law_height : Binds K fd__law_height ["_law_one", "_law_other", "_law_dot"] []) :
    Fn P w K mg base CX0 2 a._law_hull fd ["_law_places_here"] spHull := by
  refine ok F sc__law_hull (fun vs H Q E h => ?len) (fun cdv A outer s H vs Q E hq hr h => ⟨_,
      (pss_cons (ps_par (i := 1) (j := 2) (by rfl) sc__law_hull.nd rfl rfl (by decide) rfl rfl (pa_cons (pe_lstS pa_nil) (pa_cons (pe_callB (cr_sorted2 rfl) (by rfl) T.n_sorted (by decide +kernel) (pa_cons (pe_callTy (cr_setOfT rfl hr.units) (by rfl) T.n_set (by decide +kernel) (pa_cons (pv 0) pa_nil)) pa_nil)) pa_nil)) (by rfl))
      (pss_cons (ps_for PassesOwn.never rfl (pi_tup (pe_tup (pa_cons (pv 2) (pa_cons (pe_revL (pv 2)) pa_nil)))) (pg_name (i := 3) sc__law_hull.nd rfl (Or.inl rfl)) (pss_cons (ps_set (i := 4) sc__law_hull.nd rfl (Or.inl rfl) (pe_lstS pa_nil))
      (pss_cons (ps_for PassesOwn.never rfl (pi_list (pv 3)) (pg_name (i := 5) sc__law_hull.nd rfl (Or.inl rfl)) (pss_cons (ps_while PassesOwn.never (PW.pt (pw_and (pt_cmpR op_gt (pe_callB call_len_seq (by rfl) T.n_len (by decide +kernel) (pa_cons (pv 4) pa_nil)) pe_int (nomark _)) (pw_and1 (pt_cmpR op_le (pe_fn G__law_height hq (hr.mono (by omega)) (by rfl) T.g__law_height T.k__law_height b__law_height .nil pass0 (pa_cons (pe_ix ix_list (pv 4) (pe_un un_neg pe_int) (fun _ _ => rfl)) (pa_cons (pe_ix ix_list (pv 4) (pe_un un_neg pe_int) (fun _ _ => rfl)) (pa_cons (pe_op op_catA (pv 5) (pe_tup (pa_cons pe_int pa_nil))) pa_nil)))) pe_int (nomark _))))) (pss_one (ps_expr (pe_bm0 PySem.F.plainAttrs_list PySem.F.slot_list_pop PySem.F.type_list_pop mt_pop (pv 4)))))
      (pss_one (ps_expr (pe_bm PySem.F.plainAttrs_list PySem.F.slot_list_append PySem.F.type_list_append mt_append (pv 4) (pa_cons (pv 5) pa_nil))))))
      (pss_one (ps_set (i := 1) sc__law_hull.nd rfl (Or.inl rfl) (pe_op op_cat (pv 1) (pe_slice sl_list (pv 4) po_none (po_some (pe_un un_neg pe_int)))))))))
      (pss_one (ps_ret (pv 1))))), ?body⟩)
  case len => obtain ⟨l, us, ps, rfl, _⟩ := h; rfl
  case body =>
    obtain ⟨l, us, ps, rfl, hl, hp, hz, nr, q⟩ := h
    have hsz := sizeLine_eq
    obtain ⟨ks, rfl, hks, htup⟩ := pls_ks hp
    rw [List.length_map] at hz
    refine ⟨(by show 0 ≤ sizeLine; decide), fun F nF _ => ?_⟩
    have SF := same_new (o := .lst []) nF
    refine ⟨_, rfl, l, ks, rfl, SqL.of (SF _ _ hl), fun p hp => SqT.of (SF _ _ (htup p hp)), by omega, fun a0 L na0 subL allL => ?_⟩
    have Sa := same_new (o := SetTO P w a0 L) na0
    have form : ∀ q ∈ L, ∃ x : PP, q.2 = [x.1, x.2] ∧ Nr x := fun q hq => by
      have : q.2 ∈ ks.map (·.2) := List.mem_map.mpr ⟨q, subL q hq, rfl⟩
      rw [hks] at this
      obtain ⟨x, hx, e⟩ := List.mem_map.mp this
      exact ⟨x, e.symm, nr x hx⟩
    refine ⟨a0, L, rfl, upd_same, fun q hq => ⟨SqT.of (Sa _ _ (SF _ _ (htup q (subL q hq)))), ?_⟩, fun M r pm nd few2 pw nrr => ⟨_, _, rfl, ?_⟩⟩
    · obtain ⟨x, e, n⟩ := form q hq
      rw [e]
      exact near_of n
    have formM : ∀ q ∈ M, ∃ x : PP, q.2 = [x.1, x.2] ∧ Nr x := fun q hq => form q (pm.mem_iff.mp hq)
    have ordR := rows_ord formM nd pw
    have SM := same_new (o := .lst (M.map fun q => V.ref q.1)) nrr
    have S3 := (SF.trans Sa).trans SM
    generalize hR : (M.map fun q => toP q.2) = R at ordR
    have hpR : Pls H (M.map fun q => V.ref q.1) R := by
      rw [← hR]
      refine paired_of (by rw [List.length_map, List.length_map]) fun i v x e1 e2 => ?_
      rw [List.getElem?_map] at e1 e2
      obtain ⟨q, hq, rfl⟩ := Option.map_eq_some_iff.mp e1
      rw [hq] at e2
      cases e2
      have mq := List.mem_of_getElem? hq
      obtain ⟨x, ex, _⟩ := formM q mq
      have := htup q (subL q (pm.mem_iff.mp mq))
      rw [ex] at this
      show Pt H (V.ref q.1) [(toP q.2).1, (toP q.2).2]
      rw [ex]
      exact ⟨q.1, rfl, this⟩
    have nrR : ∀ x ∈ R, Nr x := fun x hx => by
      rw [← hR] at hx
      obtain ⟨q, hq, rfl⟩ := List.mem_map.mp hx
      obtain ⟨y, ey, ny⟩ := formM q hq
      rw [ey]
      exact ny
    have lenR : R.length < 64 := by rw [← hR, List.length_map]; exact few2
    refine ⟨_, rfl, _, rfl, r, _, rfl, SqL.of upd_same, fun r2 nr2 => ⟨(by show 2 ≤ sizeLine; decide), fun o no => ⟨o, rfl, ⟨_, SqT.of upd_same⟩, ?_⟩⟩⟩
    have Sr2 := same_new (o := .lst (M.map fun q => V.ref q.1).reverse) nr2
    have So := same_new (o := .tup [V.ref r, V.ref r2]) no
    obtain ⟨B, hB⟩ : ∃ B, B = upd (upd (upd (upd (upd H F (.lst [])) a0 (SetTO P w a0 L)) r (.lst (M.map fun q => V.ref q.1))) r2 (.lst (M.map fun q => V.ref q.1).reverse)) o (.tup [V.ref r, V.ref r2]) := ⟨_, rfl⟩
    have SB : Same H B := hB ▸ (S3.trans Sr2).trans So
    have bF : B F = some (.lst []) := hB ▸ So _ _ (Sr2 _ _ (SM _ _ (Sa _ _ upd_same)))
    have br : B r = some (.lst (M.map fun q => V.ref q.1)) := hB ▸ So _ _ (Sr2 _ _ upd_same)
    have br2 : B r2 = some (.lst (M.map fun q => V.ref q.1).reverse) := hB ▸ So _ _ upd_same
    have bo : B o = some (.tup [V.ref r, V.ref r2]) := hB ▸ upd_same
    have hRB : Pls B (M.map fun q => V.ref q.1) R := Paired.mapP hpR fun _ _ e => e.same SB
    have lenM : (M.map fun q => V.ref q.1).length = R.length := hRB.length
    obtain ⟨rv, hrv⟩ : ∃ rv, rv = M.map fun q => V.ref q.1 := ⟨_, rfl⟩
    rw [← hrv] at br br2 hRB lenM
    refine for_it walk_tup (fun i σ H' => Same B H' ∧ ∃ (G : Addr) (s3 s4 s5 : Option V) (ws : List V) (qs : List PP), σ = [some (.ref l), some (.ref G), some (.ref r), s3, s4, s5] ∧ H' G = some (.lst ws) ∧ (i = 0 ∨ H G = none) ∧ Pls H' ws qs ∧ (∀ x ∈ qs, x ∈ R) ∧ ws.length ≤ 64 * i ∧
      (i = 0 → qs = []) ∧ (i = 1 → ∃ low, Sd lexB R R.length low ∧ qs = low.dropLast) ∧ (i = 2 → ∃ low up, Sd lexB R R.length low ∧ Sd (fun a b => lexB b a) R.reverse R.length up ∧ qs = low.dropLast ++ up.dropLast)) ?start (fun i σ H' _ h => SqT.of (h.1 _ _ bo)) ?turn ?fin
    case start => exact ⟨(by rw [hB]; exact Same.refl _), F, _, _, _, [], [], rfl, So _ _ (Sr2 _ _ (SM _ _ (Sa _ _ upd_same))), .inl rfl, .nil, (fun _ h => nomatch h), Nat.zero_le _, fun _ => rfl, fun h => by omega, fun h => by omega⟩
    case turn =>
      rintro i x σ H0' H1 hi ⟨S1, G, s3, s4, s5, ws, qs, rfl, hG, _, hws, hqs, hlen, q0, q1, _⟩ ⟨rfl, hx⟩
      have hi : i < 2 := hi
      obtain ⟨wa, wv, W, rel, rfl, bw, hW, ordW, lenW, subW, w0, w1⟩ : ∃ (wa : Addr) (wv : List V) (W : List PP) (rel : PP → PP → Prop), x = .ref wa ∧ B wa = some (.lst wv) ∧ Pls B wv W ∧ W.Pairwise rel ∧ W.length = R.length ∧ (∀ x ∈ W, x ∈ R) ∧ (i = 0 → W = R ∧ rel = lexB) ∧ (i = 1 → W = R.reverse ∧ rel = fun a b => lexB b a) := by
        rcases i with _ | _ | i
        · cases hx
          exact ⟨r, rv, R, lexB, rfl, br, hRB, ordR, rfl, fun _ h => h, fun _ => ⟨rfl, rfl⟩, fun h => by omega⟩
        · cases hx
          exact ⟨r2, rv.reverse, R.reverse, fun a b => lexB b a, rfl, br2, pls_rev hRB, List.pairwise_reverse.mpr ordR, List.length_reverse, fun x h => List.mem_reverse.mp h, fun h => by omega, fun _ => ⟨rfl, rfl⟩⟩
        · omega
      have lenwv := hW.length
      refine ⟨(by show 0 ≤ sizeLine; decide), fun S nS _ => ?_⟩
      have SS := same_new (o := .lst []) nS
      refine ⟨_, rfl, wa, rfl, ⟨_, SqL.of (SS _ _ (S1 _ _ bw))⟩, for_it walk_list (fun j σ H' => Same H1 H' ∧ (∃ s5 : Option V, σ = [some (.ref l), some (.ref G), some (.ref r), some (.ref wa), some (.ref S), s5]) ∧ ∃ (sv : List V) (s : List PP), H' S = some (.lst sv) ∧ Pls H1 sv s ∧ Sd rel W j s ∧ sv.length ≤ j) ?start2 (fun j σ H' _ h => h.1.seq (SqL.of (S1 _ _ bw))) ?turn2 ?fin2⟩
      case start2 => exact ⟨SS, ⟨_, rfl⟩, [], [], upd_same, .nil, ⟨Sd.none, fun h => by omega⟩, Nat.le_refl _⟩
      case turn2 =>
        rintro j x σ H4' H3 hj ⟨S3', ⟨s5, rfl⟩, sv, s, hS, hsv, sd, hsl⟩ ⟨rfl, hx⟩
        obtain ⟨w0', hw0, hwP⟩ := paired_at hW hx
        have nw : Nr w0' := nrR _ (subW _ (List.mem_of_getElem? hw0))
        refine ⟨fun m σ H' => σ = [some (.ref l), some (.ref G), some (.ref r), some (.ref wa), some (.ref S), some x] ∧ Same H1 H' ∧ ∃ (sv : List V) (s : List PP), m = sv.length ∧ H' S = some (.lst sv) ∧ Pls H1 sv s ∧ Mid rel W j s ∧ sv.length ≤ j, ⟨sv.length, rfl, S3', sv, s, rfl, hS, hsv, sd.mid, hsl⟩, ?_⟩
        rintro m σ H5 ⟨rfl, S5, sv, s, rfl, hS, hsv, md, hsl⟩
        have lens := hsv.length
        refine ⟨_, rfl, S, sv, rfl, .inl (SqL.of hS), _, _, rfl, rfl, _, rfl, ite2 (fun c1 => ?_) (fun c1 => iteF ?_)⟩
        · have c1 : 1 < sv.length := by
            have : ((1 : Int) < (sv.length : Nat)) := of_decide_eq_true c1
            omega
          obtain ⟨X1, hX1, q1, eq1, hq1⟩ := paired_at hsv (List.getElem?_eq_getElem (show sv.length - 2 < sv.length by omega))
          obtain ⟨Y1, hY1, q2, eq2, hq2⟩ := paired_at hsv (List.getElem?_eq_getElem (show sv.length - 1 < sv.length by omega))
          have es : s = s.take (s.length - 2) ++ [X1, Y1] := last_two (by omega) (by rw [← lens]; exact hX1) (by rw [← lens]; exact hY1)
          have nX : Nr X1 := nrR _ (subW _ (List.mem_of_mem_take (md.sub X1 (List.mem_of_getElem? hX1))))
          have nY : Nr Y1 := nrR _ (subW _ (List.mem_of_mem_take (md.sub Y1 (List.mem_of_getElem? hY1))))
          obtain ⟨tx, rfl, htx⟩ := hwP
          have htx5 := S5 _ _ (S1 _ _ htx)
          refine ⟨_, rfl, _, rfl, S, sv, _, _, rfl, rfl, SqL.of hS, atI_neg (j := sv.length - 2) (by show (-2 : Int) = _; omega) (List.getElem?_eq_getElem (by omega)), ?_⟩
          refine ⟨_, rfl, _, rfl, S, sv, _, _, rfl, rfl, SqL.of hS, atI_neg (j := sv.length - 1) (by show (-1 : Int) = _; omega) (List.getElem?_eq_getElem (by omega)), ?_⟩
          refine ⟨_, rfl, (by show 1 ≤ sizeLine; decide), fun o3 n3 => ⟨tx, o3, _, _, rfl, rfl, SqT.of (same_new n3 _ _ htx5), SqT.of upd_same, (by show 3 ≤ sizeLine; decide), fun z => (nomatch z), fun _ z => (nomatch z), fun _ _ o4 n4 => ?_⟩⟩
          have S7 := (same_new (o := .tup [.int 1]) n3).trans (same_new (o := .tup [.int w0'.1, .int w0'.2, .int 1]) n4)
          rw [eq1, eq2]
          refine ⟨_, _, _, X1.1, X1.2, Y1.1, Y1.2, w0'.1, w0'.2, 1, 10, rfl, ⟨q1, rfl, S7 _ _ (S5 _ _ hq1)⟩, ⟨q2, rfl, S7 _ _ (S5 _ _ hq2)⟩, ⟨o4, rfl, upd_same⟩, nX.ib.1, nX.ib.2, nY.ib.1, nY.ib.2, nw.ib.1, nw.ib.2, (by show (1 : Int).natAbs < 2 ^ 10; decide), by omega, ?_⟩
          have hS7 := S7 _ _ hS
          refine ⟨_, _, rfl, rfl, _, rfl, ite2 (fun c2 => ?_) (fun c2 => ?_)⟩
          · refine ⟨fun σ' H' => ∃ m', m' < sv.length ∧ (σ' = [some (.ref l), some (.ref G), some (.ref r), some (.ref wa), some (.ref S), some (.ref tx)] ∧ Same H1 H' ∧ ∃ (sv : List V) (s : List PP), m' = sv.length ∧ H' S = some (.lst sv) ∧ Pls H1 sv s ∧ Mid rel W j s ∧ sv.length ≤ j), fun _ _ h => h, ?_⟩
            refine ⟨_, rfl, .inl ⟨rfl, _, SqL.of hS7⟩, S, sv, _, rfl, rfl, hS7, List.getElem?_eq_getElem (by omega), ?_⟩
            refine ⟨sv.dropLast.length, by rw [List.length_dropLast]; omega, rfl, fun b o' e => ?_, sv.dropLast, s.dropLast, rfl, upd_same, pls_dl hsv, md.pop (by omega), by rw [List.length_dropLast]; omega⟩
            rw [upd_ne (ne_of_none e nS)]
            exact S7 _ _ (S5 _ _ e)
          · refine ⟨_, rfl, .inl ⟨rfl, _, SqL.of hS7⟩, _, rfl, S, sv, _, rfl, rfl, hS7, by omega, fun b o' e => ?_, ⟨_, rfl⟩, sv ++ [.ref tx], s ++ [w0'], upd_same, PySem.Paired.snoc hsv ⟨tx, rfl, S1 _ _ htx⟩, md.push ordW hw0 (.inr ⟨_, X1, Y1, es, ?_⟩), by rw [List.length_append]; simp; omega⟩
            · rw [upd_ne (ne_of_none e nS)]
              exact S7 _ _ (S5 _ _ e)
            · apply Classical.byContradiction
              intro z
              exact c2 (decide_eq_true (by show hgt X1.1 X1.2 Y1.1 Y1.2 w0'.1 w0'.2 1 ≤ 0; unfold tri at z; omega))
        · have c1 : ¬ 1 < sv.length := fun z => c1 (decide_eq_true (by show (1 : Int) < (sv.length : Nat); omega))
          refine ⟨_, rfl, .inl ⟨rfl, _, SqL.of hS⟩, _, rfl, S, sv, _, rfl, rfl, hS, by omega, fun b o' e => ?_, ⟨_, rfl⟩, sv ++ [x], s ++ [w0'], upd_same, PySem.Paired.snoc hsv (hwP.same S1), md.push ordW hw0 (.inl (by omega)), by rw [List.length_append]; simp; omega⟩
          rw [upd_ne (ne_of_none e nS)]
          exact S5 _ _ e
      case fin2 =>
        rintro σ H3 ⟨S3', ⟨s5', rfl⟩, sv, s, hS, hsv, sd, hsl⟩
        rw [lenwv, lenW] at sd
        refine ⟨_, rfl, _, rfl, _, rfl, _, rfl, S, sv, rfl, SqL.of hS, fun c nc => ?_⟩
        have ec : cutV sv none (some (-1)) = sv.dropLast := cutV_dl sv
        have Sc := same_new (o := .lst (cutV sv none (some (-1)))) nc
        have hG3 := Sc _ _ (S3' _ _ hG)
        have hdl := cutV_length sv none (some (-1))
        refine ⟨G, c, ws, _, rfl, rfl, hG3, upd_same, by omega, fun c2 nc2 => ?_⟩
        have S2 := same_new (o := .lst (ws ++ cutV sv none (some (-1)))) nc2
        have St := (S3'.trans Sc).trans S2
        have hc2 : H c2 = none := by
          cases e : H c2 with
          | none => rfl
          | some o' =>
            have e' : upd H3 c (.lst (cutV sv none (some (-1)))) c2 = some o' := Sc _ _ (S3' _ _ (S1 _ _ (SB _ _ e)))
            rw [nc2] at e'
            cases e'
        refine ⟨S1.trans St, c2, _, _, _, ws ++ cutV sv none (some (-1)), qs ++ s.dropLast, rfl, upd_same, .inr hc2, ?_, fun x hx => ?_, ?_, fun z => by omega, fun z => ?_, fun z => ?_⟩
        · have p1 := Paired.mapP hws fun _ _ e => Pt.same St e
          have p2 : Pls H1 (cutV sv none (some (-1))) s.dropLast := by
            rw [ec]
            exact pls_dl hsv
          exact pls_app p1 (Paired.mapP p2 fun _ _ e => Pt.same St e)
        · rcases List.mem_append.mp hx with h | h
          · exact hqs x h
          · exact subW x (List.mem_of_mem_take (sd.mid.sub x ((List.dropLast_sublist s).mem h)))
        · rw [List.length_append]
          omega
        · obtain ⟨e1, e2⟩ := w0 (by omega)
          subst e1 e2
          exact ⟨s, sd, by rw [q0 (by omega)]; rfl⟩
        · obtain ⟨e1, e2⟩ := w1 (by omega)
          subst e1 e2
          obtain ⟨low, hl1, rfl⟩ := q1 (by omega)
          exact ⟨low, s, hl1, sd, rfl⟩
    case fin =>
      rintro σ H1 ⟨S1, G, s3, s4, s5, ws, qs, rfl, hG, hn, hws, hqs, hlen, _, _, q2⟩
      obtain ⟨low, up, hl1, hu1, rfl⟩ := q2 rfl
      have hlen : ws.length ≤ 64 * 2 := hlen
      exact ⟨_, rfl, q G ws _ H1 (hn.resolve_left (fun z => absurd (show (2 : Nat) = 0 from z) (by decide))) (SB.trans S1) hG hws (hull_final ordR hl1 hu1) (fun x hx => nrR x (hqs x hx)) (by omega)⟩
end
end My

namespace My
open PySem PySem.Spec PyProof.Rows L2 G
abbrev s__law_corners : Stmt := topS 57
theorem sc__law_corners : FnScope ["_law_pot_here", "_law_marks_here", "_law_far", "_law_places_here", "_law_turn", "_law_found", "_law_at", "_law_name", "_law_place"] ["_law_pot_here", "_law_marks_here"] (defScope s__law_corners) := ⟨rfl, rfl, rfl, by decide +kernel, rfl, by decide +kernel, by decide +kernel⟩

theorem cutV_top (xs : List V) (k : Nat) : cutV xs none (some (k : Int)) = xs.take k := cutV_pre xs k
theorem pls_take {H : Hp} {vs : List V} {xs : List PP} (k : Nat) : Pls H vs xs → Pls H (vs.take k) (xs.take k) := fun h => paired_of (by rw [List.length_take, List.length_take, h.length]) fun i v x e1 e2 => by
  have h1 := (List.getElem?_eq_some_iff.mp e1).1
  rw [List.length_take] at h1
  rw [List.getElem?_take_of_lt (by omega)] at e1 e2
  obtain ⟨y, hy, p⟩ := paired_at h e1
  rw [hy] at e2
  cases e2
  exact p
theorem pls_drop {H : Hp} {vs : List V} {xs : List PP} (k : Nat) : Pls H vs xs → Pls H (vs.drop k) (xs.drop k) := fun h => paired_of (by rw [List.length_drop, List.length_drop, h.length]) fun i v x e1 e2 => by
  rw [List.getElem?_drop] at e1 e2
  obtain ⟨y, hy, p⟩ := paired_at h e1
  rw [hy] at e2
  cases e2
  exact p
theorem Pt.nol {H H' : Hp} {v : V} {ns : List Int} (nl : NoL H H') (h : Pt H v ns) : Pt H' v ns := let ⟨t, e, x⟩ := h; ⟨t, e, nl _ _ x fun _ z => nomatch z⟩
theorem base_cvx : Cvx [((0 : Int), (0 : Int)), (3, 0), (0, 3)] := by
  refine ⟨?_, ?_, ?_, trivial⟩
  · refine List.pairwise_cons.mpr ⟨fun c hc => ?_, List.pairwise_singleton _ _⟩
    rw [List.mem_singleton.mp hc, tri_eq]
    decide
  · exact List.pairwise_singleton _ _
  · exact .nil
section
variable {P : Program} {w : World} {K : PySem.W.Frag} {mg : Str → Option Value} {base : Heap} {a : Ad}
theorem ok__law_corners {fd : FuncData} (F : Fun K "_law_corners" "_law_corners" s__law_corners a._law_corners fd) (T : Txt K mg a)
    {fd__law_take : FuncData} (G__law_take : Fn P w K mg base CX0 1 a._law_take fd__law_take ["_law_pot_here", "_law_upto"] spTake) (b__law_take : Binds K fd__law_take ["_law_pot_here", "_law_upto"] [])
    {fd__law_hull : FuncData} (G__law_hull : Fn P w K mg base CX0 2 a._law_hull fd__law_hull ["_law_places_here"] spHull) (b__law_hull : Binds K fd__law_hull ["_law_places_here"] [])
    {fd__law_of : FuncData} (G__law_of : Fn P w K mg base CX0 2 a._law_of fd__law_of ["_law_pot_here", "_law_some_here"] spOf) (b__law_of : Binds K fd__law_of ["_law_pot_here", "_law_some_here"] []) :
    Fn P w K mg base CX0 4 a._law_corners fd ["_law_pot_here", "_law_marks_here"] spCorners := by
  refine ok F sc__law_corners (fun vs H Q E h => ?len) (fun cdv A outer s H vs Q E hq hr h => ⟨_,
      (pss_cons (ps_par (i := 2) (j := 3) (by rfl) sc__law_corners.nd rfl rfl (by decide) rfl rfl (pa_cons (pe_fn G__law_of hq (hr.mono (by omega)) (by rfl) T.g__law_of T.k__law_of b__law_of .nil pass0 (pa_cons (pv 0) (pa_cons (pe_lstS (pa_cons pe_int (pa_cons pe_int (pa_cons pe_int (pa_cons pe_int pa_nil))))) pa_nil))) (pa_cons (pe_lstS pa_nil) pa_nil)) (by rfl))
      (pss_cons (ps_for PassesOwn.never rfl (pi_range1 (by rfl) T.n_range (pa_cons (pe_op op_add pe_int (pe_fn G__law_take hq (hr.mono (by omega)) (by rfl) T.g__law_take T.k__law_take b__law_take .nil pass0 (pa_cons (pv 0) (pa_cons pe_int pa_nil)))) pa_nil)) (pg_name (i := 4) sc__law_corners.nd rfl (Or.inl rfl)) (pss_one (ps_expr (pe_bm PySem.F.plainAttrs_list PySem.F.slot_list_append PySem.F.type_list_append mt_append (pv 3) (pa_cons (pe_tup (pa_cons (pe_op op_sub (pe_fn G__law_take hq (hr.mono (by omega)) (by rfl) T.g__law_take T.k__law_take b__law_take .nil pass0 (pa_cons (pv 0) (pa_cons (pe_op op_add (pe_op op_mulW pe_int (pv 2)) pe_int) pa_nil))) (pv 2)) (pa_cons (pe_op op_sub (pe_fn G__law_take hq (hr.mono (by omega)) (by rfl) T.g__law_take T.k__law_take b__law_take .nil pass0 (pa_cons (pv 0) (pa_cons (pe_op op_add (pe_op op_mulW pe_int (pv 2)) pe_int) pa_nil))) (pv 2)) pa_nil))) pa_nil)))))
      (Evl.pss_cut (ps_if (pt_cmpR op_eq (pe_fn G__law_take hq (hr.mono (by omega)) (by rfl) T.g__law_take T.k__law_take b__law_take .nil pass0 (pa_cons (pv 0) (pa_cons pe_int pa_nil))) pe_int (nomark _)) (pss_one (ps_set (i := 3) sc__law_corners.nd rfl (Or.inl rfl) (pe_op op_cat (pv 3) (pe_slice sl_list (pe_lc (own := [("_law_name", 7), ("_law_place", 8)]) (g := (gTup K 2 (gCons (gName 7) (gCons (gName 8) gNil)))) (tt := tYes) rfl sc__law_corners.nd (pi_list (pv 1)) (blkOk_by (own := [("_law_name", 7), ("_law_place", 8)]) (N := ["_law_pot_here", "_law_marks_here", "_law_far", "_law_places_here", "_law_turn", "_law_found", "_law_at", "_law_name", "_law_place"]) (sc := defScope s__law_corners) (by decide +kernel)) (fun _ _ _ _ _ => (pg_tup rfl (pgs_cons (pg_name (i := 7) sc__law_corners.nd rfl (Or.inl rfl) (hf := Or.inr rfl)) (pgs_cons (pg_name (i := 8) sc__law_corners.nd rfl (Or.inl rfl) (hf := Or.inr rfl)) pgs_nil)))) (fun _ _ _ _ _ => pts_nil) (fun _ _ _ _ _ => (pv 8))) po_none (po_some pe_int))))) pss_nil)
      (pss_cons (ps_set (i := 5) sc__law_corners.nd rfl (Or.inl rfl) (pe_slice sl_list (pe_fn G__law_hull hq (hr.mono (by omega)) (by rfl) T.g__law_hull T.k__law_hull b__law_hull .nil pass0 (pa_cons (pv 3) pa_nil)) po_none (po_some pe_int)))
      (Evl.pss_cut (ps_if (pt_cmpR op_lt (pe_callB call_len_seq (by rfl) T.n_len (by decide +kernel) (pa_cons (pv 5) pa_nil)) pe_int (nomark _)) (pss_one (ps_set (i := 5) sc__law_corners.nd rfl (Or.inl rfl) (pe_lstS (pa_cons (pe_tup (pa_cons pe_int (pa_cons pe_int pa_nil))) (pa_cons (pe_tup (pa_cons pe_int (pa_cons pe_int pa_nil))) (pa_cons (pe_tup (pa_cons pe_int (pa_cons pe_int pa_nil))) pa_nil)))))) pss_nil)
      (pss_cons (ps_set (i := 6) sc__law_corners.nd rfl (Or.inl rfl) (pe_fn G__law_take hq (hr.mono (by omega)) (by rfl) T.g__law_take T.k__law_take b__law_take .nil pass0 (pa_cons (pv 0) (pa_cons (pe_callB call_len_seq (by rfl) T.n_len (by decide +kernel) (pa_cons (pv 5) pa_nil)) pa_nil))))
      (pss_one (ps_ret (pe_callTy call_tuple_of (by rfl) T.n_tuple (by decide +kernel) (pa_cons (pe_op op_cat (pe_slice sl_list (pv 5) (po_some (pv 6)) po_none) (pe_slice sl_list (pv 5) po_none (po_some (pv 6)))) pa_nil)))))))))), ?body⟩)
  case len => obtain ⟨p, m, n, us, ms, rfl, _⟩ := h; rfl
  case body =>
    obtain ⟨p, m, n, us, ms, rfl, pot, hn, hm, nm, hp, hl, q⟩ := h
    have hsz := sizeLine_eq
    refine ⟨_, rfl, (by show 4 ≤ sizeLine; decide), fun l1 nl1 _ => ?_⟩
    refine ⟨p, l1, n, _, rfl, pot.new nl1, pot.same (same_new nl1), by omega, upd_same, (fun z => nomatch z), by decide, fun x H1 hx g1 => ?_⟩
    have G1 := Go.of (same_new nl1) g1
    obtain ⟨f, rfl, f1, f2⟩ : ∃ f : Int, x = .int f ∧ 1 ≤ f ∧ f ≤ 999 := by
      simp only [List.mem_cons, List.not_mem_nil, or_false] at hx
      rcases hx with h | h | h | h <;> exact ⟨_, h, by decide, by decide⟩
    refine ⟨(by show 0 ≤ sizeLine; decide), fun F nF _ => ⟨_, _, rfl, ?_⟩⟩
    have hF : F ≠ p := G1.pot.new nF
    have nF0 : H F = none := G1.none pot nF
    have hm1 : H1 m = some (.lst us) := G1.at hm nm
    have mF : m ≠ F := fun z => by rw [z, nF] at hm1; cases hm1
    have SF := same_new (o := .lst []) nF
    have cf : CMulW 2 f := cw (show (2 : Int).natAbs < 2 ^ 8000 from Ib.mono (m := 10) (show (2 : Int).natAbs < 2 ^ 10 by decide) (by omega)) (show f.natAbs < 2 ^ 8000 from Ib.mono (m := 10) (show f.natAbs < 2 ^ 10 by omega) (by omega))
    refine ⟨_, rfl, p, 5, n + 1, rfl, (G1.fwd SF).pot, by omega, by omega, by omega, fun d H2 d0 d1 g2 => ⟨_, _, rfl, rfl, 3 + d, rfl, by omega, by omega, ?_⟩⟩
    have G2 := (G1.fwd SF).trans g2
    have tk : (3 + d).toNat ≤ 7 := by omega
    refine for_it walk_range (fun i σ H' => (∃ s4 : Option V, σ = [some (.ref p), some (.ref m), some (.int f), some (.ref F), s4, none, none, none, none]) ∧ Go p (n + 2 + 2 * i) H H' ∧ H' m = some (.lst us) ∧ Mks H' us ms ∧ ∃ (ws : List V) (xs : List PP), H' F = some (.lst ws) ∧ Pls H' ws xs ∧ (∀ x ∈ xs, Nr x) ∧ ws.length = i) ?start (fun _ _ _ _ _ => trivial) ?turn ?fin
    case start => exact ⟨⟨_, rfl⟩, G2, g2.at (SF _ _ hm1) nm, ((hp.go pot G1).same SF).go (G1.fwd SF).pot g2, [], [], g2.at upd_same hF, .nil, (fun _ h => nomatch h), rfl⟩
    case turn =>
      rintro i x σ H3 H4 hi ⟨⟨s4, rfl⟩, g, hm3, hp3, ws, xs, hw, hx, nx, lw⟩ ⟨rfl, rfl⟩
      have hi : i < (3 + d).toNat := hi
      refine ⟨_, rfl, .inl ⟨rfl, _, SqL.of hw⟩, _, rfl, _, rfl, _, _, rfl, rfl, cf, _, _, rfl, rfl, p, _, _, rfl, g.pot, by omega, (by show (1 : Int) ≤ 2 * f + 1; omega), (by show 2 * f + 1 ≤ (10 : Int) ^ 8; omega), fun e1 H5 a1 b1 g1 => ?_⟩
      refine ⟨_, rfl, _, _, rfl, rfl, _, rfl, _, rfl, _, _, rfl, rfl, cf, _, _, rfl, rfl, p, _, _, rfl, g1.pot, by omega, (by show (1 : Int) ≤ 2 * f + 1; omega), (by show 2 * f + 1 ≤ (10 : Int) ^ 8; omega), fun e2 H6 a2 b2 g2 => ?_⟩
      have b1 : e1 < 2 * f + 1 := b1
      have b2 : e2 < 2 * f + 1 := b2
      refine ⟨_, rfl, _, _, rfl, rfl, (by show 2 ≤ sizeLine; decide), fun o no => ?_⟩
      have So := same_new (o := .tup [.int (e1 - f), .int (e2 - f)]) no
      have gg := ((g.trans g1).trans g2).fwd So
      have hw6 := So _ _ (g2.at (g1.at hw hF) hF)
      have nl := noL_upd (ys := ws ++ [.ref o]) hw6
      refine ⟨F, ws, _, rfl, rfl, hw6, by omega, ⟨_, rfl⟩, (gg.over nF0 hF).mono (by omega), by rw [upd_ne mF]; exact So _ _ (g2.at (g1.at hm3 nm) nm), Mks.nol nl (((hp3.go g.pot g1).go g1.pot g2).same So), ws ++ [.ref o], xs ++ [(e1 - f, e2 - f)], upd_same, ?_, fun y hy => ?_, by rw [List.length_append, lw]; rfl⟩
      · refine Paired.mapP (PySem.Paired.snoc (Paired.mapP hx fun _ _ e => (Pt.go g1.pot g2 (Pt.go g.pot g1 e)).same So) ⟨o, rfl, upd_same⟩) fun _ _ e => Pt.nol nl e
      · rcases List.mem_append.mp hy with h | h
        · exact nx y h
        · rw [List.mem_singleton.mp h]
          exact ⟨⟨by show -999 ≤ e1 - f; omega, by show e1 - f ≤ 999; omega⟩, ⟨by show -999 ≤ e2 - f; omega, by show e2 - f ≤ 999; omega⟩⟩
    case fin =>
      rintro σ H3 ⟨⟨s4, rfl⟩, g, hm3, hp3, ws, xs, hw, hx, nx, lw⟩
      refine ⟨fun σ' H' => ∃ (F' : Addr) (ws : List V) (xs : List PP), σ' = [some (.ref p), some (.ref m), some (.int f), some (.ref F'), s4, none, none, none, none] ∧ Go p (n + 20) H H' ∧ H' F' = some (.lst ws) ∧ Pls H' ws xs ∧ (∀ x ∈ xs, Nr x) ∧ ws.length ≤ 9, ?_, ?_⟩
      · refine ⟨_, rfl, p, 3, n + 16, rfl, g.pot.mono (by omega), by omega, by omega, by omega, fun e H4 e0 e1 g4 => ⟨rfl, _, rfl, ?_⟩⟩
        have g34 := g.trans g4
        have hw4 := g4.at hw hF
        have hx4 := Paired.mapP hx fun _ _ e => Pt.go g.pot g4 e
        refine ite2 (fun c => ?_) (fun c => ⟨F, ws, xs, rfl, g34.mono (by omega), hw4, hx4, nx, by omega⟩)
        have hm4 := g4.at hm3 nm
        have hp4 := hp3.go g.pot g4
        refine ⟨_, rfl, _, rfl, m, rfl, ⟨_, SqL.of hm4⟩, fun D nD => lc_relW walk_list (fun i y H' => ∃ x : PP, ms[i]? = some x ∧ Pt H' y [x.1, x.2]) ?hR nD (fun H' S => S.seq (SqL.of hm4)) (by omega) ?he ?hd⟩
        case hR =>
          rintro i y H5 H6 nl ⟨x, hx, h⟩
          exact ⟨x, hx, h.nol nl⟩
        case he =>
          rintro i x H5 H6 Q' N hi S ⟨rfl, hx⟩ qy
          obtain ⟨X, hX, ⟨t, z, u, rfl, e1, e2⟩, _⟩ := paired_at hp4 hx
          refine ⟨t, _, rfl, SqT.of (S _ _ e1), rfl, _, _, rfl, _, _, rfl, rfl, rfl, yesI ⟨_, rfl, ?_⟩⟩
          exact qy _ _ (Same.refl _) ⟨X, hX, u, rfl, S _ _ e2⟩
        case hd =>
          intro ys H5 S5 hD hly hys
          have pys : Pls H5 ys ms := paired_of (by have := hp4.length; omega) fun i v x e1 e2 => by
            obtain ⟨y, hy, h⟩ := hys i v e1
            rw [hy] at e2
            cases e2
            exact h
          have nms : ∀ x ∈ ms, Nr x := fun x hx => by
            obtain ⟨i, hi⟩ := List.mem_iff_getElem?.mp hx
            obtain ⟨v, hv⟩ : ∃ v, us[i]? = some v := ⟨_, List.getElem?_eq_getElem (by have := hp4.length; have := (List.getElem?_eq_some_iff.mp hi).1; omega)⟩
            obtain ⟨y, hy, _, h⟩ := paired_at hp4 hv
            rw [hy] at hi
            cases hi
            exact h
          refine ⟨_, rfl, D, ys, rfl, SqL.of hD, fun c nc => ?_⟩
          have ec : cutV ys none (some 2) = ys.take 2 := cutV_pre ys 2
          have Sc := same_new (o := .lst (cutV ys none (some 2))) nc
          refine ⟨F, c, ws, _, rfl, rfl, Sc _ _ (S5 _ _ hw4), upd_same, by have := cutV_length ys none (some 2); omega, fun c2 nc2 => ?_⟩
          have S2 := same_new (o := .lst (ws ++ cutV ys none (some 2))) nc2
          refine ⟨c2, ws ++ cutV ys none (some 2), xs ++ ms.take 2, rfl, (g34.fwd ((S5.trans Sc).trans S2)).mono (by omega), upd_same, ?_, fun x hx => ?_, ?_⟩
          · have p2 : Pls H5 (cutV ys none (some 2)) (ms.take 2) := by
              rw [ec]
              exact pls_take 2 pys
            exact pls_app (Paired.mapP hx4 fun _ _ e => Pt.same ((S5.trans Sc).trans S2) e) (Paired.mapP p2 fun _ _ e => Pt.same (Sc.trans S2) e)
          · rcases List.mem_append.mp hx with h | h
            · exact nx x h
            · exact nms x (List.mem_of_mem_take h)
          · rw [List.length_append, ec, List.length_take]
            omega
      · rintro σ H4 ⟨F', ws, xs, rfl, g4, hw4, hx4, nx4, l4⟩
        refine ⟨_, rfl, F', ws, xs, rfl, hw4, hx4, by omega, nx4, fun h hs hxs H5 nh S5 hh hph cvx nrh lh => ?_⟩
        refine ⟨_, rfl, h, hs, rfl, SqL.of hh, fun c nc => ?_⟩
        have g5 := g4.fwd S5
        have ec : cutV hs none (some 8) = hs.take 8 := cutV_pre hs 8
        have Sc := same_new (o := .lst (cutV hs none (some 8))) nc
        have g6 := g5.fwd Sc
        have pc : Pls H5 (cutV hs none (some 8)) (hxs.take 8) := by
          rw [ec]
          exact pls_take 8 hph
        have lc : (cutV hs none (some 8)).length ≤ 8 := by rw [ec, List.length_take]; omega
        refine ⟨fun σ' H' => ∃ (fd : Addr) (ws : List V) (xs : List PP), σ' = [some (.ref p), some (.ref m), some (.int f), some (.ref F'), s4, some (.ref fd), none, none, none] ∧ Go p (n + 20) H H' ∧ fd ≠ p ∧ H' fd = some (.lst ws) ∧ Pls H' ws xs ∧ Cvx xs ∧ (∀ x ∈ xs, Nr x) ∧ 3 ≤ ws.length ∧ ws.length ≤ 8, ?_, ?_⟩
        · refine ⟨_, rfl, c, _, rfl, .inl (SqL.of upd_same), _, _, rfl, rfl, _, rfl, ite2 (fun z => ?_) (fun z => ?_)⟩
          · refine ⟨(by show 2 ≤ sizeLine; decide), fun o1 n1 => ?_⟩
            refine ⟨(by show 2 ≤ sizeLine; decide), fun o2 n2 => ?_⟩
            refine ⟨(by show 2 ≤ sizeLine; decide), fun o3 n3 => ?_⟩
            refine ⟨(by show 3 ≤ sizeLine; decide), fun fd nfd _ => ?_⟩
            have Z1 := same_new (o := .tup [.int 0, .int 0]) n1
            have Z2 := same_new (o := .tup [.int 3, .int 0]) n2
            have Z3 := same_new (o := .tup [.int 0, .int 3]) n3
            have Z4 := same_new (o := .lst [.ref o1, .ref o2, .ref o3]) nfd
            have gz := ((g6.fwd Z1).fwd Z2).fwd Z3
            refine ⟨fd, [.ref o1, .ref o2, .ref o3], [((0 : Int), (0 : Int)), (3, 0), (0, 3)], rfl, gz.fwd Z4, gz.pot.new nfd, upd_same, .cons ⟨o1, rfl, Z4 _ _ (Z3 _ _ (Z2 _ _ upd_same))⟩ (.cons ⟨o2, rfl, Z4 _ _ (Z3 _ _ upd_same)⟩ (.cons ⟨o3, rfl, Z4 _ _ upd_same⟩ .nil)), base_cvx, fun x hx => ?_, by simp, by simp⟩
            simp only [List.mem_cons, List.not_mem_nil, or_false] at hx
            rcases hx with rfl | rfl | rfl <;> (unfold Nr; decide)
          · refine ⟨c, _, hxs.take 8, rfl, g6, g5.pot.new nc, upd_same, Paired.mapP pc fun _ _ e => Pt.same Sc e, cvx_sub (List.take_sublist 8 hxs) cvx, fun x hx => nrh x (List.mem_of_mem_take hx), ?_, lc⟩
            apply Classical.byContradiction
            intro y
            exact z (decide_eq_true (by omega))
        · rintro σ H6 ⟨fd, ws, xs, rfl, g7, np, hw, hx, cv, nx, l3, l8⟩
          refine ⟨_, rfl, _, rfl, fd, ws, rfl, .inl (SqL.of hw), p, _, _, rfl, g7.pot, by omega, by omega, by omega, fun e H7 e0 e1 g8 => ?_⟩
          obtain ⟨k, rfl⟩ : ∃ k : Nat, e = (k : Int) := ⟨e.toNat, by omega⟩
          have hw7 := g8.at hw np
          have hx7 := Paired.mapP hx fun _ _ e => Pt.go g7.pot g8 e
          have lx := hx7.length
          refine ⟨_, rfl, _, rfl, _, rfl, fd, ws, rfl, SqL.of hw7, fun c1 n1 => ?_⟩
          have Z1 := same_new (o := .lst (cutV ws (some (k : Int)) none)) n1
          refine ⟨_, rfl, _, rfl, _, rfl, fd, ws, rfl, SqL.of (Z1 _ _ hw7), fun c2 n2 => ?_⟩
          have Z2 := same_new (o := .lst (cutV ws none (some (k : Int)))) n2
          have lk : k < ws.length := by omega
          refine ⟨c1, c2, _, _, rfl, rfl, Z2 _ _ upd_same, upd_same, ?_, fun c3 n3 => ⟨c3, _, rfl, .inl ⟨SqL.of upd_same, fun t nt => ?_⟩⟩⟩
          · rw [cutV_suf, cutV_pre, List.length_drop, List.length_take]
            omega
          · have Z3 := same_new (o := .lst (cutV ws (some (k : Int)) none ++ cutV ws none (some (k : Int)))) n3
            have Z4 := same_new (o := .tup (cutV ws (some (k : Int)) none ++ cutV ws none (some (k : Int)))) nt
            have Z := ((Z1.trans Z2).trans Z3).trans Z4
            refine q t _ (xs.drop k ++ xs.take k) _ (((g7.trans g8).fwd Z).mono (by omega)) upd_same ?_ (cvx_rot _ _ (by rw [List.take_append_drop]; exact cv)) (fun x hx => ?_) ?_ ?_
            · rw [cutV_suf, cutV_pre] at *
              exact Paired.mapP (pls_app (pls_drop k hx7) (pls_take k hx7)) fun _ _ e => Pt.same Z e
            · rcases List.mem_append.mp hx with h | h
              · exact nx x (List.mem_of_mem_drop h)
              · exact nx x (List.mem_of_mem_take h)
            · rw [cutV_suf, cutV_pre, List.length_append, List.length_drop, List.length_take]
              omega
            · rw [cutV_suf, cutV_pre, List.length_append, List.length_drop, List.length_take]
              omega
end
end My

namespace G
open PySem PySem.Spec PyProof.Rows L2

/-! ### x in an instance, by its own __contains__ -/
theorem contains_fn {M : Model} {A : Around} {E : Value → Shared → Prop} {s : Shared} {K : PySem.W.Frag} {c C f : Addr} {ox : Obj} {od : Option Obj} {y : Value} {Q : Bool → Shared → Prop} (X : K.In s.heap) (I : PySem.W.InstAt s.heap c ox C od)
    (hs : PySem.W.findIn K (.ref C) "__contains__" = some (some (.ref f))) (hf : PySem.W.isFn K (.ref f) = true) (h : wpAny M A (call (.ref f) [.ref c, y]) (fun v s' => ∃ r, v = .bool r ∧ Q r s') E s) : wpAny M A (contains (.ref c) y) Q E s := by
  have look : ∀ {R : Option Value → Shared → Prop}, R (some (.ref f)) s → wpAny M A (specialOf (.ref c) "__contains__") R E s := fun r => by
    unfold specialOf
    apply wpAny_bind
    apply I.type.here
    exact (PySem.W.looks_findIn X hs).here r
  unfold contains
  apply wpAny_holding
  simp only [stdlibNamesSay?]
  apply wpAny_bind
  refine look ?_
  simp only [show ((some (Value.ref f) : Option Value) == some Value.none) = false from rfl, Bool.false_eq_true, if_false]
  apply wpAny_bind
  unfold callSpecialUnlessNone?
  apply wpAny_bind
  refine look ?_
  apply wpAny_holding
  apply wpAny_bind
  apply (PySem.W.bind_fn X _ (beq_iff_eq.mp hf)).here
  simp only [show (Value.ref f == Value.none) = false from rfl, Bool.false_eq_true, if_false]
  apply wpAny_bind
  refine wpAny_mono h (fun v s' h' => ?_) fun _ _ z => z
  obtain ⟨r, rfl, q⟩ := h'
  exact wpAny_pure (wpAny_truthy_bool q)
section
variable {X : Cx} {CX : CXT} {C f : Addr} {n : Nat} {sp : Sp} {E : XK}
def rInK (C : Addr) (sp : Sp) (E : XK) : R2 := fun x y H Q => ∃ a dx fs, y = .ref a ∧ H a = some (.ins C dx fs) ∧ sp [.ref a, x] H (fun v H' => ∃ r, v = .bl r ∧ Q (.bl r) H') E
theorem op_inK (h1 : PySem.W.findIn X.K (.ref C) "__contains__" = some (some (.ref f))) (h2 : PySem.W.isFn X.K (.ref f) = true) (F : FnR X.prog X.w X.K X.mg X.base CX n f sp) (hr : Room n X.A) (hx : Passes CX X E) : OpR X (compareOp .In) (rInK C sp E) := by
  rintro pins s σ H x y v u Q I rx ry ⟨a, dx, fs, rfl, ha, q⟩
  cases (show u = Value.ref a from ry)
  obtain ⟨_, _, J, _⟩ := ins_inst I ha
  show wpAny _ _ (do return Value.bool (← contains (Value.ref a) v)) _ _ _
  apply wpAny_bind
  refine contains_fn I.kIn J h1 h2 (wpAny_mono (wpAny_call (run_fnR (us := [.ref a, v]) (vs := [.ref a, x]) F hr hx I (.cons rfl (.cons rx .nil)) q)) ?_ fun _ _ z => z)
  rintro w s' ⟨z', H', I', rz, r, rfl, qz⟩
  cases rz
  exact ⟨r, rfl, wpAny_pure ⟨.bl r, H', I', rfl, qz⟩⟩
end
end G

namespace G
open PySem PySem.Spec PyProof.Rows L2

/-! ### len(set(t)), t a tuple of tuples of ints -/
/-- a set just made -/
abbrev bareSet (w : World) : Obj := { cls := .type "set", dict := none, data := .set #[] 0 (.fresh 0 0 (!w.params.followText "set-order")) }
section
variable {P : Program} {w : World} {A : Around} {E : Value → Shared → Prop} {s : Shared}
/-- what set.__init__ leaves of a tuple of tuples of ints -/
theorem init_tuple {l : Addr} {its : Array Value} (ks : List (Addr × List Int)) {B : Around} {Ex : Value → Shared → Prop} {R : PySem.Fin → Shared → Prop} (hh : B.handled = none) (tl : s.heap.IsTuple l its) (hit : its.toList = ks.map fun p => Value.ref p.1)
    (hk : ∀ p ∈ ks, L2.IsT P w s.heap p.2 p.1) (few : ks.length < 64) (un : B.units + 1 < cLine)
    (r : ∀ (h' : Heap) (tk : Nat) L es ep t, SetTR P w h' s.heap.objs.size L es ep t → L2.Got ks ks.length L → (∀ b o, s.heap.get? b = some o → h'.get? b = some o) → R (.done (.ret .none)) { s with heap := h', toks := tk }) :
    wpAny (model P w) B (Builtin.«set.__init__» ⟨[.ref s.heap.objs.size, .ref l], []⟩) R Ex { s with heap := s.heap.push (bareSet w) } := by
  have n : its.size = ks.length := by rw [← Array.length_toList, hit, List.length_map]
  obtain ⟨⟨oc, od, odata, osl⟩, at0, oc', m, od'⟩ := tl
  simp only at oc' od'
  subst oc' od'
  have at1 : (s.heap.push (bareSet w)).get? l = some { cls := .type "tuple", dict := od, data := .seq its m, slots := osl } := Heap.get?_push_of_some _ at0
  have tl1 : (s.heap.push (bareSet w)).IsTuple l its := ⟨_, at1, rfl, m, rfl⟩
  have here : (s.heap.push (bareSet w)).get? s.heap.objs.size = some (bareSet w) := Heap.get?_push_size _ rfl
  have no1 := F.sub_tuple_set
  have no2 := F.sub_tuple_frozenset
  have no3 : (Value.type "tuple" == Value.type "dict") = false := by decide
  unfold Builtin.«set.__init__» noKeywords Builtin.Frozenset.updateFrom
  generalize hPI : pyIter = PI
  wp_walk
  subst hPI
  refine wpAny_pyIter_tuple tl1 ?_
  apply wpAny_bind
  apply wpAny_runValue
  have low : l < s.heap.objs.size := Heap.lt_size at0
  have free : ∀ b, s.heap.objs.size ≤ b → s.heap.get? b = none := fun b hb => by
    cases e : s.heap.get? b with
    | none => rfl
    | some o => exact absurd (Nat.lt_of_lt_of_le (Heap.lt_size e) hb) (Nat.lt_irrefl _)
  have sz1 : (s.heap.push (bareSet w)).objs.size = s.heap.objs.size + 1 := Heap.size_push ..
  have vals : ∀ (i : Nat) (v : Value), its[i]? = some v → ∃ p, ks[i]? = some p ∧ v = .ref p.1 := fun i v hv => by
    rw [← Array.getElem?_toList, hit, List.getElem?_map] at hv
    obtain ⟨p, e1, e2⟩ := Option.map_eq_some_iff.mp hv
    exact ⟨p, e1, e2.symm⟩
  have notin : s.heap.objs.size ∉ [(s.heap.push (bareSet w)).objs.size, l] := fun z => by
    rw [sz1] at z
    rcases List.mem_cons.mp z with z | z
    · exact absurd z (Nat.ne_of_lt (Nat.lt_succ_self _))
    · exact absurd (List.mem_singleton.mp z) (Nat.ne_of_gt low)
  refine set_update_tups ((Walks.tuple (by simp [hh]) (s.heap.push (bareSet w)).objs.size l (by rw [sz1]; exact Nat.ne_of_lt (Nat.lt_succ_of_lt low)) its).toS) s.heap.objs.size notin ks n few vals s.heap hk (free _ (Nat.le_refl _)) (fun b hb => free b (by rw [List.mem_singleton.mp hb, sz1]; exact Nat.le_succ _)) (show B.units + 1 < cLine from un) (its.size - 0) 0 _ (by omega) (Nat.zero_le _)
    ⟨⟨_, Heap.get?_push_size _ rfl, rfl, rfl⟩, tl1.push _⟩ (fun b o e => Heap.get?_push_of_some _ (Heap.get?_push_of_some _ e)) ⟨[], #[], 0, _, setTR_fresh (Heap.get?_push_of_some _ here), L2.Got.zero ks⟩ ?_
  intro st L es ep t same a1 a2 a3
  obtain ⟨h', g2, d', tk', os'⟩ := st
  have e1 : g2 = s.gens := same.gens
  have e2 : d' = s.drawn := same.drawn
  have e3 : os' = s.os := same.os
  subst e1 e2 e3
  show wpAny _ _ _ _ _ _
  refine wpAny_pure ?_
  show wpAny _ _ (ret Value.none) _ _ _
  rw [n] at a2
  exact wpAny_pure (r h' tk' L es ep t a1 a2 a3)
theorem call_setU {l : Addr} {its : Array Value} (ks : List (Addr × List Int)) {Q : Value → Shared → Prop} (hh : A.handled = none) (tl : s.heap.IsTuple l its) (hit : its.toList = ks.map fun p => Value.ref p.1)
    (hk : ∀ p ∈ ks, L2.IsT P w s.heap p.2 p.1) (few : ks.length < 64) (un : A.units + 3 < cLine)
    (q : ∀ (h' : Heap) (tk : Nat) L es ep t, SetTR P w h' s.heap.objs.size L es ep t → L2.Got ks ks.length L → (∀ b o, s.heap.get? b = some o → h'.get? b = some o) → Q (.ref s.heap.objs.size) { s with heap := h', toks := tk }) :
    wpAny (model P w) A (call (.type "set") [.ref l]) Q E s := by
  obtain ⟨c, tl', hmro⟩ := F.called_set.mro
  have hmade := F.called_set.made
  have hsub := F.called_set.sub
  refine wpAny_call (codeAny_of_tree ?_)
  show wpAny _ _ (callAny (.type "set") _) _ _ _
  refine wpAny_pure ⟨Code.quiet_builtin _ (by decide +kernel), codeAny_builtin F.entry_type_call ?_⟩
  rw [Around.under_plain (weight_type_call_type "set" [.ref l] []) rfl]
  have h1 := F.called_set.notType
  have h2 := F.called_set.canCreate
  have hct := F.typeCall_set_1 (.ref l)
  repeat (any_goals (first | assumption | wp_step))
  refine codeAny_mono (code_set_led1 (.ref l) (E := E) (Q₁ := fun x st => x = .ref s.heap.objs.size ∧ st = { s with heap := s.heap.push (bareSet w) }) ⟨rfl, rfl⟩) fun res st z => ?_
  match res, z with
  | .error _, z => exact z
  | .ok .next, z => exact z.elim
  | .ok .brk, z => exact z.elim
  | .ok .cont, z => exact z.elim
  | .ok (.ret x), z =>
    obtain ⟨rfl, rfl⟩ := z
    have here : (s.heap.push (bareSet w)).get? s.heap.objs.size = some (bareSet w) := Heap.get?_push_size _ rfl
    have ty : Shared.TypeIs { s with heap := s.heap.push (bareSet w) } (.ref s.heap.objs.size) "set" := ⟨_, here, rfl⟩
    have look := F.called_set.init.lookup
    have bnd := F.called_set.init.bind (.ref s.heap.objs.size)
    repeat (any_goals (first | assumption | wp_step))
    refine codeAny_mono (codeAny_call_builtin (R := wants (fun r st => r = .none ∧ ∃ h' tk L es ep t, st = { s with heap := h', toks := tk } ∧ SetTR P w h' s.heap.objs.size L es ep t ∧ L2.Got ks ks.length L ∧ (∀ b o, s.heap.get? b = some o → h'.get? b = some o)) E)
      F.called_set.init.plain F.entry_set_init (check_set_init_1 ty ?_)) fun res st z => ?_
    · exact init_tuple ks (by simp [hh]) tl hit hk few (by show A.units + 2 + 1 < cLine; omega) fun h' tk L es ep t a1 a2 a3 => ⟨rfl, h', tk, L, es, ep, t, rfl, a1, a2, a3⟩
    · match res, z with
      | .error _, z => exact z
      | .ok .next, z => exact z.elim
      | .ok .brk, z => exact z.elim
      | .ok .cont, z => exact z.elim
      | .ok (.ret x), z =>
        obtain ⟨rfl, h', tk, L, es, ep, t, rfl, a1, a2, a3⟩ := z
        repeat (any_goals (first | assumption | wp_step))
        exact q _ _ _ _ _ _ a1 a2 a3
end
theorem perm_of_sub {α : Type} [DecidableEq α] : ∀ {l m : List α}, l.Nodup → (∀ x ∈ l, x ∈ m) → l.length = m.length → l.Perm m
  | [], m, _, _, h => by rw [List.eq_nil_of_length_eq_zero h.symm]
  | a :: l, m, nd, sub, h => by
    obtain ⟨na, nl⟩ := List.nodup_cons.mp nd
    have am := sub a (by simp)
    have p := List.perm_cons_erase am
    refine (List.Perm.cons a (perm_of_sub nl (fun x hx => ?_) ?_)).trans p.symm
    · have := p.mem_iff.mp (sub x (List.mem_cons_of_mem _ hx))
      rcases List.mem_cons.mp this with z | z
      · exact absurd (z ▸ hx) na
      · exact z
    · have := p.length_eq
      simp only [List.length_cons] at this h
      omega
/-- how many there are tells whether one came twice -/
def tLenU (K : PySem.W.Frag) (ta : TE) : TE := fun σ H Q => ta σ H fun x H1 => ∃ (t : Addr) (ks : List (Addr × List Int)), x = V.ref t ∧ SqT K H1 t (ks.map fun p => V.ref p.1) ∧ (∀ p ∈ ks, SqT K H1 p.1 (p.2.map V.int)) ∧ ks.length < 64 ∧
  ∀ n : Nat, (n = ks.length ↔ (ks.map (·.2)).Nodup) → Q (.int n) H1
theorem pe_lenU {X : Cx} {a : Expr} {ta : TE} {p p2 q pos : Pos} (hc : X.calm = true) (hu : X.A.units + 64 < cLine) (hg : Gl X "len") (hm : X.mg "len" = none) (hg2 : Gl X "set") (hm2 : X.mg "set" = none) (ha : PE X a ta)
    (na : starEach [a] X.env = (false, eval a X.env) :: starEach [] X.env := by rfl) : PE X (.Call (.Name "len" p) [.Call (.Name "set" p2) [a] [] q] [] pos) (tLenU X.K ta) := by
  constructor
  intro pins s σ H Q I h
  refine Call_ (ld_blt I hg hm PySem.boot_len (PyProof.Rows.callWith_builtin1 (PyProof.Rows.args_cons (Call_ (ld_blt I hg2 hm2 PyProof.Rows.boot_set
    (PyProof.Rows.callWith_type1 (PyProof.Rows.args_cons (thn (ha.run pins s σ H _ I h) fun v s1 ⟨x, H1, I1, r1, t, ks, e, hq, hk, few, q1⟩ => PyProof.Rows.args_nil ?_) na) na rfl))) rfl) rfl rfl))
  subst e
  cases r1
  obtain ⟨its, rv, pl, _⟩ := I1.tuple hq
  refine call_setU (P := X.prog) (w := X.w) ks (I1.ok.hd hc) pl (by simpa using refs_of_vals rv) (fun p hp => I1.isT (hk p hp)) few (by omega) fun h' tk L es ep t R g k => PyProof.Rows.args_nil ?_
  obtain ⟨o, ho, ex, hd⟩ := R.ob
  have I2 : Inv X pins σ H1 { s1 with heap := h', toks := tk } := I1.kept fun b o e => k b o e
  have few2 := R.few
  have sz := SetTR.size (s := { s1 with heap := h' }) R
  refine call_len_set ho ex hd (SetTR.fits (s := { s1 with heap := h' }) R) (by omega) ⟨.int es.size, H1, I2.tok _, ⟨_, rfl⟩, q1 _ ?_⟩
  have sub : ∀ x ∈ L.map (·.2), x ∈ ks.map (·.2) := fun x hx => by
    obtain ⟨p, hp, rfl⟩ := List.mem_map.mp hx
    exact List.mem_map.mpr ⟨p, List.mem_of_mem_take (g.sub p hp), rfl⟩
  rw [sz]
  constructor
  · intro e
    exact (perm_of_sub R.nd sub (by rw [List.length_map, List.length_map]; exact e)).nodup_iff.mp R.nd
  · intro nd
    have : (L.map (·.2)).Perm (ks.map (·.2)) := (List.perm_ext_iff_of_nodup R.nd nd).mpr fun x => ⟨sub x, fun hx => by
      obtain ⟨p, hp, rfl⟩ := List.mem_map.mp hx
      exact g.all p (by rw [List.take_length]; exact hp)⟩
    have := this.length_eq
    rw [List.length_map, List.length_map] at this
    exact this
end G

namespace G
open PySem PySem.Spec PyProof.Rows L2
section
variable {X : Cx}
/-- x not in a tuple of data -/
def rNotInU (K : PySem.W.Frag) : R2 := fun x y H Q => ∃ d ds, Dp K H x d ∧ Dp K H y (.tuple ds) ∧ SeqAt.shaped d = true ∧ SeqAt.shaped (.tuple ds) = true ∧ Q (.bl (!ds.any fun z => PyData.eqv z d)) H
theorem op_notInU (hu : X.A.units + 65 < cLine) : OpR X (compareOp .NotIn) (rNotInU X.K) := by
  rintro pins s σ H x y v u Q I rx ry ⟨d, ds, hd, he, sd, se, q⟩
  obtain ⟨_, r1⟩ := Dp.reads I d x v hd rx
  obtain ⟨_, r2⟩ := Dp.reads I (.tuple ds) y u he ry
  exact SeqAt.notIn_tuple_reads r2 r1 (SeqAt.canLay_of_shaped se) (SeqAt.canLay_of_shaped sd) (room_in_shaped sd hu) ⟨.bl _, H, I, rfl, q⟩
end
end G

namespace My
open PySem PySem.Spec PyProof.Rows L2 G
abbrev s__law_is_int : Stmt := topS 44
theorem sc__law_is_int : FnScope ["_law_value", "_law_low", "_law_high"] ["_law_value", "_law_low", "_law_high"] (defScope s__law_is_int) := ⟨rfl, rfl, rfl, by decide +kernel, rfl, by decide +kernel, by decide +kernel⟩

abbrev s__law_is_within : Stmt := topS 59
theorem sc__law_is_within : FnScope ["_law_corners_here", "_law_dot", "_law_one", "_law_other"] ["_law_corners_here", "_law_dot"] (defScope s__law_is_within) := ⟨rfl, rfl, rfl, by decide +kernel, rfl, by decide +kernel, by decide +kernel⟩

abbrev s__law_edge_dots : Stmt := topS 62
theorem sc__law_edge_dots : FnScope ["_law_corners_here", "_law_found", "_law_a", "_law_b", "_law_c", "_law_d"] ["_law_corners_here"] (defScope s__law_edge_dots) := ⟨rfl, rfl, rfl, by decide +kernel, rfl, by decide +kernel, by decide +kernel⟩

def spEdges : Sp := fun vs H Q _ => ∃ t us ps, vs = [.ref t] ∧ H t = some (.tup us) ∧ Pls H us ps ∧ us.length ≤ 30 ∧ ∀ l ws H', H l = none → Same H H' → H' l = some (.lst ws) → Paired (Ed H') ws (eds ps) → Q (.ref l) H'
def withB (ps : List PP) (x y d : Int) : Bool := (eds ps).all fun e => decide (0 ≤ hgt e.1.1 e.1.2 e.2.1 e.2.2 x y d)
def spWithin : Sp := fun vs H Q _ => ∃ t us ps v x y d k, vs = [.ref t, v] ∧ H t = some (.tup us) ∧ Pls H us ps ∧ (∀ x ∈ ps, Nr x) ∧ us.length ≤ 30 ∧ Dot H v k x y d ∧ k ≤ 900 ∧ ∀ H', Same H H' → Q (.bl (withB ps x y d)) H'
def spIsInt2 : Sp := fun vs H Q _ => ∃ v d lo hi, vs = [v, .int lo, .int hi] ∧ Da H v d ∧ Q (.bl (match d with | .int i => decide (lo ≤ i ∧ i ≤ hi) | _ => false)) H
def spEdgeDots : Sp := fun vs H Q _ => ∃ t us ps, vs = [.ref t] ∧ H t = some (.tup us) ∧ Pls H us ps ∧ (∀ x ∈ ps, Nr x) ∧ us.length ≤ 30 ∧ ∀ l ws H', H l = none → Same H H' → H' l = some (.lst ws) → (∀ u ∈ ws, ∃ x y d, Dot H' u 60 x y d) → ws.length ≤ 200 → Q (.ref l) H'
section
variable {P : Program} {w : World} {K : PySem.W.Frag} {mg : Str → Option Value} {base : Heap} {a : Ad}
theorem ok__law_is_int {fd : FuncData} (F : Fun K "_law_is_int" "_law_is_int" s__law_is_int a._law_is_int fd) (T : Txt K mg a) :
    Fn P w K mg base CX0 1 a._law_is_int fd ["_law_value", "_law_low", "_law_high"] spIsInt2 := by
  refine ok F sc__law_is_int (fun vs H Q E h => ?len) (fun cdv A outer s H vs Q E hq hr h => ⟨_,
      (pss_one (ps_ret (pe_and (pe_callB call_isi (by rfl) T.n_isinstance (by decide +kernel) (pa_cons (pv 0) (pa_cons (pe_bltn (v := .ty "int") (u := .type "int") (by rfl) T.n_int (by decide +kernel) rfl) pa_nil))) (pe_and (pe_not (pe_callB call_isi (by rfl) T.n_isinstance (by decide +kernel) (pa_cons (pv 0) (pa_cons (pe_bltn (v := .ty "bool") (u := .type "bool") (by rfl) T.n_bool (by decide +kernel) rfl) pa_nil)))) (pe_one (pe_chain op_le op_le (pv 1) (pv 0) (pv 2))))))), ?body⟩)
  case len => obtain ⟨v, d, lo, hi, rfl, _⟩ := h; rfl
  case body =>
    obtain ⟨v, d, lo, hi, rfl, hd, q⟩ := h
    obtain ⟨t, ty, k1, k2, _⟩ := da_cls (K := K) hd
    refine ⟨_, rfl, v, _, _, _, _, rfl, .ty _, ty, k1, _, rfl, ?_⟩
    cases hd with
    | int i =>
      refine iteT ⟨_, rfl, .int i, _, _, _, _, rfl, .ty _, ty, k2, _, rfl, _, rfl, iteT ⟨_, rfl, _, rfl, _, _, rfl, rfl, _, rfl, ?_⟩⟩
      by_cases c : lo ≤ i
      · rw [decide_eq_true c]
        refine iteT ⟨_, rfl, _, _, rfl, rfl, ?_⟩
        have e : decide (lo ≤ i ∧ i ≤ hi) = decide (i ≤ hi) := decide_eq_decide.mpr ⟨fun h => h.2, fun h => ⟨c, h⟩⟩
        have q : Q (.bl (decide (lo ≤ i ∧ i ≤ hi))) H := q
        rw [e] at q
        exact q
      · rw [decide_eq_false c]
        refine iteF ?_
        have q : Q (.bl (decide (lo ≤ i ∧ i ≤ hi))) H := q
        rw [decide_eq_false (fun z => c z.1)] at q
        exact q
    | bl b => exact iteT ⟨_, rfl, .bl b, _, _, _, _, rfl, .ty _, ty, k2, _, rfl, _, rfl, iteF q⟩
    | _ => exact iteF q
theorem ok__law_is_within {fd : FuncData} (F : Fun K "_law_is_within" "_law_is_within" s__law_is_within a._law_is_within fd) (T : Txt K mg a)
    {fd__law_edges : FuncData} (G__law_edges : Fn P w K mg base CX0 1 a._law_edges fd__law_edges ["_law_corners_here"] spEdges) (b__law_edges : Binds K fd__law_edges ["_law_corners_here"] [])
    {fd__law_height : FuncData} (G__law_height : Fn P w K mg base CX0 1 a._law_height fd__law_height ["_law_one", "_law_other", "_law_dot"] spHeight) (b__law_height : Binds K fd__law_height ["_law_one", "_law_other", "_law_dot"] []) :
    Fn P w K mg base CX0 2 a._law_is_within fd ["_law_corners_here", "_law_dot"] spWithin := by
  refine ok F sc__law_is_within (fun vs H Q E h => ?len) (fun cdv A outer s H vs Q E hq hr h => ⟨_,
      (pss_one (ps_ret (pe_callB (cr_all rfl) (by rfl) T.n_all (by decide +kernel) (pa_cons (pe_lc (own := [("_law_one", 2), ("_law_other", 3)]) (g := (gTup K 2 (gCons (gName 2) (gCons (gName 3) gNil)))) (tt := tYes) rfl sc__law_is_within.nd (pi_list (pe_fn G__law_edges hq (hr.mono (by omega)) (by rfl) T.g__law_edges T.k__law_edges b__law_edges .nil pass0 (pa_cons (pv 0) pa_nil))) (blkOk_by (own := [("_law_one", 2), ("_law_other", 3)]) (N := ["_law_corners_here", "_law_dot", "_law_one", "_law_other"]) (sc := defScope s__law_is_within) (by decide +kernel)) (fun _ _ _ _ _ => (pg_tup rfl (pgs_cons (pg_name (i := 2) sc__law_is_within.nd rfl (Or.inl rfl) (hf := Or.inr rfl)) (pgs_cons (pg_name (i := 3) sc__law_is_within.nd rfl (Or.inl rfl) (hf := Or.inr rfl)) pgs_nil)))) (fun _ _ _ _ _ => pts_nil) (fun _ _ _ _ _ => (pe_cmpR op_ge (pe_fn G__law_height hq (hr.mono (by omega)) (by rfl) T.g__law_height T.k__law_height b__law_height .nil pass0 (pa_cons (pv 2) (pa_cons (pv 3) (pa_cons (pv 1) pa_nil)))) pe_int (nomark _)))) pa_nil)))), ?body⟩)
  case len => obtain ⟨t, us, ps, v, x, y, d, k, rfl, _⟩ := h; rfl
  case body =>
    obtain ⟨t, us, ps, v, x, y, d, k, rfl, ht, hp, nr, hl, hv, hk, q⟩ := h
    have hsz := sizeLine_eq
    refine ⟨_, rfl, t, us, ps, rfl, ht, hp, hl, fun l ws H1 nl S1 hl1 hw => ⟨l, rfl, ⟨_, SqL.of hl1⟩, fun D nD => ?_⟩⟩
    have hwl := hw.length
    rw [eds_len] at hwl
    have hpl := hp.length
    obtain ⟨⟨tv, rfl, htv⟩, d0, ix, iy, id⟩ := hv
    refine lc_valW walk_list (fun i => .bl (((eds ps)[i]?).elim false fun e => decide (0 ≤ hgt e.1.1 e.1.2 e.2.1 e.2.2 x y d))) nD (fun H' S => S.seq (SqL.of hl1)) (by omega) ?he ?hd
    case he =>
      rintro i u H5 H6 Q' N hi S ⟨rfl, hu⟩ qy
      obtain ⟨e, he, t', q', r', rfl, f1, f2, f3⟩ := paired_at hw hu
      rw [he] at qy
      obtain ⟨m1, m2⟩ := eds_mem (List.mem_of_getElem? he)
      have n1 := (nr _ m1).ib
      have n2 := (nr _ m2).ib
      refine ⟨t', _, rfl, SqT.of (S _ _ f1), rfl, _, _, rfl, _, _, rfl, rfl, rfl, yesI ?_⟩
      refine ⟨_, rfl, _, rfl, _, rfl, _, _, _, e.1.1, e.1.2, e.2.1, e.2.2, x, y, d, k, rfl, ⟨q', rfl, S _ _ f2⟩, ⟨r', rfl, S _ _ f3⟩, ⟨tv, rfl, S _ _ (S1 _ _ htv)⟩, n1.1, n1.2, n2.1, n2.2, ix, iy, id, by omega, _, _, rfl, rfl, ?_⟩
      exact qy _ (Same.refl _)
    case hd =>
      intro H5 S5 hD
      refine ⟨D, (List.range (eds ps).length).map fun i => ((eds ps)[i]?).elim false fun e => decide (0 ≤ hgt e.1.1 e.1.2 e.2.1 e.2.2 x y d), rfl, SqL.of (by rw [List.map_map, eds_len, ← hwl]; exact hD), ?_⟩
      rw [range_all]
      exact q _ (S1.trans S5)
theorem ok__law_edge_dots {fd : FuncData} (F : Fun K "_law_edge_dots" "_law_edge_dots" s__law_edge_dots a._law_edge_dots fd) (T : Txt K mg a)
    {fd__law_edges : FuncData} (G__law_edges : Fn P w K mg base CX0 1 a._law_edges fd__law_edges ["_law_corners_here"] spEdges) (b__law_edges : Binds K fd__law_edges ["_law_corners_here"] []) :
    Fn P w K mg base CX0 2 a._law_edge_dots fd ["_law_corners_here"] spEdgeDots := by
  refine ok F sc__law_edge_dots (fun vs H Q E h => ?len) (fun cdv A outer s H vs Q E hq hr h => ⟨_,
      (pss_cons (ps_set (i := 1) sc__law_edge_dots.nd rfl (Or.inl rfl) (pe_lstS pa_nil))
      (pss_cons (ps_for PassesOwn.never rfl (pi_list (pe_fn G__law_edges hq (hr.mono (by omega)) (by rfl) T.g__law_edges T.k__law_edges b__law_edges .nil pass0 (pa_cons (pv 0) pa_nil))) (pg_tup rfl (pgs_cons (pg_tup rfl (pgs_cons (pg_name (i := 2) sc__law_edge_dots.nd rfl (Or.inl rfl)) (pgs_cons (pg_name (i := 3) sc__law_edge_dots.nd rfl (Or.inl rfl)) pgs_nil))) (pgs_cons (pg_tup rfl (pgs_cons (pg_name (i := 4) sc__law_edge_dots.nd rfl (Or.inl rfl)) (pgs_cons (pg_name (i := 5) sc__law_edge_dots.nd rfl (Or.inl rfl)) pgs_nil))) pgs_nil))) (pss_one (ps_set (i := 1) sc__law_edge_dots.nd rfl (Or.inl rfl) (pe_op op_cat (pv 1) (pe_lstS (pa_cons (pe_tup (pa_cons (pv 2) (pa_cons (pv 3) (pa_cons pe_int pa_nil)))) (pa_cons (pe_tup (pa_cons (pe_op op_add (pv 2) (pv 4)) (pa_cons (pe_op op_add (pv 3) (pv 5)) (pa_cons pe_int pa_nil)))) (pa_cons (pe_tup (pa_cons (pe_op op_sub (pe_op op_mulW pe_int (pv 2)) (pv 4)) (pa_cons (pe_op op_sub (pe_op op_mulW pe_int (pv 3)) (pv 5)) (pa_cons pe_int pa_nil)))) (pa_cons (pe_tup (pa_cons (pe_op op_add (pe_op op_mulW pe_int (pe_op op_add (pv 2) (pv 4))) pe_int) (pa_cons (pe_op op_mulW pe_int (pe_op op_add (pv 3) (pv 5))) (pa_cons pe_int pa_nil)))) pa_nil)))))))))
      (pss_one (ps_ret (pv 1))))), ?body⟩)
  case len => obtain ⟨t, us, ps, rfl, _⟩ := h; rfl
  case body =>
    obtain ⟨t, us, ps, rfl, ht, hp, nr, hl, q⟩ := h
    have hsz := sizeLine_eq
    refine ⟨(by show 0 ≤ sizeLine; decide), fun F nF _ => ?_⟩
    have SF := same_new (o := .lst []) nF
    refine ⟨_, rfl, t, us, ps, rfl, SF _ _ ht, Paired.mapP hp fun _ _ e => e.same SF, hl, fun l ws H1 nl S1 hl1 hw => ⟨l, rfl, ⟨_, SqL.of hl1⟩, ?_⟩⟩
    have hwl := hw.length
    rw [eds_len] at hwl
    have hpl := hp.length
    have SH := SF.trans S1
    refine for_it walk_list (fun i σ H' => Same H1 H' ∧ ∃ (G : Addr) (s2 s3 s4 s5 : Option V) (vs : List V), σ = [some (.ref t), some (.ref G), s2, s3, s4, s5] ∧ H G = none ∧ H' G = some (.lst vs) ∧ (∀ u ∈ vs, ∃ x y d, Dot H' u 60 x y d) ∧ vs.length ≤ 4 * i) ?start (fun i σ H' _ h => h.1.seq (SqL.of hl1)) ?turn ?fin
    case start => exact ⟨Same.refl _, F, _, _, _, _, [], rfl, nF, S1 _ _ upd_same, (fun _ h => nomatch h), Nat.zero_le _⟩
    case turn =>
      rintro i x σ H2' H2 hi ⟨S2, G, s2, s3, s4, s5, vs, rfl, nG, hG, hvs, hlen⟩ ⟨rfl, hx⟩
      obtain ⟨e, he, t', q', r', rfl, f1, f2, f3⟩ := paired_at hw hx
      obtain ⟨m1, m2⟩ := eds_mem (List.mem_of_getElem? he)
      obtain ⟨⟨a, b⟩, ⟨c, d⟩⟩ := e
      obtain ⟨ia, ib⟩ := (nr _ m1).ib
      obtain ⟨ic, id⟩ := (nr _ m2).ib
      have f1 := S2 _ _ f1
      have f2 := S2 _ _ f2
      have f3 := S2 _ _ f3
      refine ⟨t', _, rfl, SqT.of f1, rfl, _, _, rfl, q', _, rfl, SqT.of f2, rfl, _, _, rfl, _, _, rfl, rfl, _, _, rfl, r', _, rfl, SqT.of f3, rfl, _, _, rfl, _, _, rfl, rfl, rfl, ?_⟩
      have i2 : Ib 2 2 := (show (2 : Int).natAbs < 2 ^ 2 by decide)
      have i50 : Ib 6 50 := (show (50 : Int).natAbs < 2 ^ 6 by decide)
      refine ⟨_, rfl, _, rfl, _, rfl, (by show 3 ≤ sizeLine; decide), fun o1 n1 => ?_⟩
      refine ⟨_, rfl, _, rfl, _, _, rfl, rfl, _, rfl, _, rfl, _, _, rfl, rfl, (by show 3 ≤ sizeLine; decide), fun o2 n2 => ?_⟩
      refine ⟨_, rfl, _, _, rfl, rfl, i2.cw ia (by omega) (by omega), _, rfl, _, _, rfl, rfl, _, rfl, _, _, rfl, rfl, i2.cw ib (by omega) (by omega), _, rfl, _, _, rfl, rfl, (by show 3 ≤ sizeLine; decide), fun o3 n3 => ?_⟩
      refine ⟨_, rfl, _, rfl, _, _, rfl, rfl, _, _, rfl, rfl, i50.cw (ia.add ic) (by omega) (by omega), _, _, rfl, rfl, _, rfl, _, rfl, _, _, rfl, rfl, _, _, rfl, rfl, i50.cw (ib.add id) (by omega) (by omega), (by show 3 ≤ sizeLine; decide), fun o4 n4 => ?_⟩
      refine ⟨(by show 4 ≤ sizeLine; decide), fun g ng _ => ?_⟩
      have Z1 := same_new (o := .tup [.int a, .int b, .int 1]) n1
      have Z2 := same_new (o := .tup [.int (a + c), .int (b + d), .int 2]) n2
      have Z3 := same_new (o := .tup [.int (2 * a - c), .int (2 * b - d), .int 1]) n3
      have Z4 := same_new (o := .tup [.int (50 * (a + c) + 1), .int (50 * (b + d)), .int 100]) n4
      have Z5 := same_new (o := .lst [.ref o1, .ref o2, .ref o3, .ref o4]) ng
      have Z := (((Z1.trans Z2).trans Z3).trans Z4).trans Z5
      have hGz := Z _ _ hG
      refine ⟨G, g, vs, _, rfl, rfl, hGz, upd_same, by show vs.length + 4 ≤ sizeLine; omega, fun w nw => ?_⟩
      have Z6 := same_new (o := .lst (vs ++ [.ref o1, .ref o2, .ref o3, .ref o4])) nw
      have hw0 : H w = none := by
        cases e : H w with
        | none => rfl
        | some o' =>
          have e' := Z _ _ (S2 _ _ (SH _ _ e))
          have nw' : upd (upd (upd (upd (upd H2 o1 (.tup [.int a, .int b, .int 1])) o2 (.tup [.int (a + c), .int (b + d), .int 2])) o3 (.tup [.int (2 * a - c), .int (2 * b - d), .int 1])) o4 (.tup [.int (50 * (a + c) + 1), .int (50 * (b + d)), .int 100])) g (.lst [.ref o1, .ref o2, .ref o3, .ref o4]) w = none := nw
          rw [nw'] at e'
          cases e'
      have b1 : Ib 60 (1 : Int) := (show (1 : Int).natAbs < 2 ^ 60 by decide)
      have b2 : Ib 60 (2 : Int) := (show (2 : Int).natAbs < 2 ^ 60 by decide)
      have b3 : Ib 60 (100 : Int) := (show (100 : Int).natAbs < 2 ^ 60 by decide)
      refine ⟨S2.trans (Z.trans Z6), w, _, _, _, _, vs ++ [.ref o1, .ref o2, .ref o3, .ref o4], rfl, hw0, upd_same, fun u hu => ?_, by rw [List.length_append]; show vs.length + 4 ≤ _; omega⟩
      rcases List.mem_append.mp hu with h | h
      · obtain ⟨x, y, d', h⟩ := hvs u h
        exact ⟨x, y, d', h.same (Z.trans Z6)⟩
      · simp only [List.mem_cons, List.not_mem_nil, or_false] at h
        rcases h with rfl | rfl | rfl | rfl
        · exact ⟨a, b, 1, ⟨o1, rfl, Z6 _ _ (Z5 _ _ (Z4 _ _ (Z3 _ _ (Z2 _ _ upd_same))))⟩, by decide, ia.mono (by omega), ib.mono (by omega), b1⟩
        · exact ⟨a + c, b + d, 2, ⟨o2, rfl, Z6 _ _ (Z5 _ _ (Z4 _ _ (Z3 _ _ upd_same)))⟩, by decide, (ia.add ic).mono (by omega), (ib.add id).mono (by omega), b2⟩
        · exact ⟨2 * a - c, 2 * b - d, 1, ⟨o3, rfl, Z6 _ _ (Z5 _ _ (Z4 _ _ upd_same))⟩, by decide, (((i2.mul ia).mono (n := 20) (by omega)).sub (ic.mono (by omega))).mono (by omega), (((i2.mul ib).mono (n := 20) (by omega)).sub (id.mono (by omega))).mono (by omega), b1⟩
        · exact ⟨50 * (a + c) + 1, 50 * (b + d), 100, ⟨o4, rfl, Z6 _ _ (Z5 _ _ upd_same)⟩, by decide, (((i50.mul (ia.add ic)).mono (n := 20) (by omega)).add ((show Ib 1 1 from (show (1 : Int).natAbs < 2 ^ 1 by decide)).mono (by omega))).mono (by omega), (i50.mul (ib.add id)).mono (by omega), b3⟩
    case fin =>
      rintro σ H2 ⟨S2, G, s2, s3, s4, s5, vs, rfl, nG, hG, hvs, hlen⟩
      exact ⟨_, rfl, q G vs H2 nG (SH.trans S2) hG hvs (by omega)⟩
end
end My

namespace PySem
open Sem (wp)
theorem zip_no_len : typeLookup (.type "zip") "__len__" = pure none := am_miss_of_fast (by decide +kernel)
theorem zip_no_hint : typeLookup (.type "zip") "__length_hint__" = pure none := am_miss_of_fast (by decide +kernel)
section
variable {prog : Program} {w : World} {A : Around} {E : Value → Shared → Prop} {s : Shared} {z TI TO T i1 i2 : Addr} {fp1 fp2 : List Addr} {n1 n2 i : Nat} {P1 P2 : Nat → Value → Prop} {St1 St2 : Nat → Heap → Prop} {f : Bool} {oT : Obj}
/-- next of a zip whose last tuple is held -/
theorem zipH2_next_item {Q : Value → Shared → Prop} (S : ZipSep2 z TI TO i1 i2 fp1 fp2) (D1 : Draws prog w A i1 fp1 n1 P1 St1) (D2 : Draws prog w A i2 fp2 n2 P2 St2)
    (hz : IsZipHeld s.heap z TI TO T f) (hT : s.heap.get? T = some oT) (hTI : IsTupOf2 s.heap TI (.ref i1) (.ref i2)) (st1 : St1 i s.heap) (st2 : St2 i s.heap) (hlt1 : i < n1) (hlt2 : i < n2)
    (hQ : ∀ x1 x2 h' tk, P1 i x1 → P2 i x2 → IsZipHeld h' z TI TO T true → St1 (i + 1) h' → St2 (i + 1) h' → IsTupOf2 h' s.heap.objs.size x1 x2 → h'.objs.size = s.heap.objs.size + 1 →
      (∀ c o, c ≠ z → c ≠ i1 → c ≠ i2 → s.heap.get? c = some o → h'.get? c = some o) → Q (.ref s.heap.objs.size) { s with heap := h', toks := tk }) :
    wpAny (model prog w) A (Builtin.«zip.__next__» ⟨[.ref z], []⟩) (fun fin s' => ∃ v, fin = .done (.ret v) ∧ Q v s') E s := by
  obtain ⟨hp, g, d, tk0, os⟩ := s
  show wpAny _ _ (field (.ref z) 2 >>= _) _ _ _
  refine wpAny_bind (wpAny_field hz rfl (x := .bool false) rfl ?_)
  show wpAny _ _ (field (.ref z) 3 >>= _) _ _ _
  refine wpAny_bind (wpAny_field hz rfl (x := .ref TI) rfl ?_)
  refine wpAny_bind (wpAny_seqItems hTI rfl ?_)
  show wpAny _ _ (Builtin.SmallTypes.ownedTupleIsFree (.ref z) >>= _) _ _ _
  refine wpAny_bind (wpAny_tupleHeld_zip hz hT fun g0 hz0 hs0 => ?_)
  replace hs0 : Heap.SameBut z hp g0 := hs0
  simp only [Bool.false_eq_true, if_false]
  refine wpAny_bind ?_
  rw [← Array.forIn_toList]
  simp only [List.forIn_cons, List.forIn_nil]
  refine wpAny_bind (wpAny_bind (wpAny_holding ?_))
  show wpAny _ _ (Builtin.SmallTypes.nextOf (.ref i1) >>= _) _ _ ⟨g0, g, d, tk0, os⟩
  refine wpAny_bind (D1.item i _ _ _ hlt1 (D1.over st1 hs0 S.zf1) fun x1 p1 tk1 hx1 sn1 hp1 => wpAny_pure ?_)
  replace hp1 : Heap.SameBut i1 g0 p1 := hp1
  refine wpAny_pure ?_
  refine wpAny_bind (wpAny_bind (wpAny_holding ?_))
  show wpAny _ _ (Builtin.SmallTypes.nextOf (.ref i2) >>= _) _ _ ⟨p1, g, d, tk1, os⟩
  refine wpAny_bind (D2.item i _ _ _ hlt2 (D2.over (D2.over st2 hs0 S.zf2) hp1 S.sep1_2) fun x2 p2 tk2 hx2 sn2 hp2 => wpAny_pure ?_)
  replace hp2 : Heap.SameBut i2 p1 p2 := hp2
  refine wpAny_pure (wpAny_pure ?_)
  show wpAny _ _ (newTuple [x1, x2] >>= _) _ _ ⟨p2, g, d, tk2, os⟩
  refine wpAny_bind (wpAny_newTuple ?_)
  have hsz : p2.objs.size = hp.objs.size := by rw [hp2.1, hp1.1, hs0.1]
  have hz3 : IsZipHeld p2 z TI TO T true := hp2.extBut _ _ S.zi2 (hp1.extBut _ _ S.zi1 hz0)
  have hk : ∀ c o, c ≠ z → c ≠ i1 → c ≠ i2 → hp.get? c = some o → p2.get? c = some o := fun c o c1 c2 c3 e => hp2.extBut _ _ c3 (hp1.extBut _ _ c2 (hs0.extBut _ _ c1 e))
  have hj1 : St1 (i + 1) p2 := D1.over sn1 hp2 S.sep2_1
  refine wpAny_pure ⟨_, rfl, ?_⟩
  show Q (.ref p2.objs.size) _
  have hpr : IsTupOf2 (p2.push { cls := .type "tuple", data := .seq #[x1, x2] }) p2.objs.size x1 x2 := Heap.get?_push_size _ rfl
  have hz4 : (p2.push { cls := .type "tuple", data := .seq #[x1, x2] }).objs.size = p2.objs.size + 1 := Heap.size_push ..
  rw [hsz] at hpr hz4 ⊢
  exact hQ x1 x2 _ tk2 hx1 hx2 (Heap.get?_push_of_some _ hz3) (D1.frame _ _ _ hj1 fun b hb o e => Heap.get?_push_of_some _ e) (D2.frame _ _ _ sn2 fun b hb o e => Heap.get?_push_of_some _ e) hpr hz4 fun c o c1 c2 c3 e => Heap.get?_push_of_some _ (hk c o c1 c2 c3 e)
theorem zipH2_next_end {Q : Fin → Shared → Prop} (S : ZipSep2 z TI TO i1 i2 fp1 fp2) (D1 : Draws prog w A i1 fp1 n1 P1 St1) (D2 : Draws prog w A i2 fp2 n2 P2 St2)
    (hz : IsZipHeld s.heap z TI TO T f) (hT : s.heap.get? T = some oT) (hTI : IsTupOf2 s.heap TI (.ref i1) (.ref i2)) (st1 : St1 i s.heap) (st2 : St2 i s.heap) (hle1 : i ≤ n1) (hle2 : i ≤ n2) (hend : i = n1 ∨ i = n2)
    (hE : ∀ h' tk e, (∀ c o, c ≠ z → c ≠ i1 → c ≠ i2 → s.heap.get? c = some o → h'.get? c = some o) → (∃ o, h'.get? e = some o ∧ o.cls = .type "StopIteration") → E (.ref e) { s with heap := h', toks := tk }) :
    wpAny (model prog w) A (Builtin.«zip.__next__» ⟨[.ref z], []⟩) Q E s := by
  obtain ⟨hp, g, d, tk0, os⟩ := s
  show wpAny _ _ (field (.ref z) 2 >>= _) _ _ _
  refine wpAny_bind (wpAny_field hz rfl (x := .bool false) rfl ?_)
  show wpAny _ _ (field (.ref z) 3 >>= _) _ _ _
  refine wpAny_bind (wpAny_field hz rfl (x := .ref TI) rfl ?_)
  refine wpAny_bind (wpAny_seqItems hTI rfl ?_)
  show wpAny _ _ (Builtin.SmallTypes.ownedTupleIsFree (.ref z) >>= _) _ _ _
  refine wpAny_bind (wpAny_tupleHeld_zip hz hT fun g0 hz0 hs0 => ?_)
  replace hs0 : Heap.SameBut z hp g0 := hs0
  simp only [Bool.false_eq_true, if_false]
  refine wpAny_bind ?_
  rw [← Array.forIn_toList]
  simp only [List.forIn_cons, List.forIn_nil]
  refine wpAny_bind (wpAny_bind (wpAny_holding ?_))
  show wpAny _ _ (Builtin.SmallTypes.nextOf (.ref i1) >>= _) _ _ ⟨g0, g, d, tk0, os⟩
  by_cases hlt1 : i < n1
  · refine wpAny_bind (D1.item i _ _ _ hlt1 (D1.over st1 hs0 S.zf1) fun x1 p1 tk1 hx1 sn1 hp1 => wpAny_pure ?_)
    replace hp1 : Heap.SameBut i1 g0 p1 := hp1
    have hi2 : i = n2 := by omega
    refine wpAny_pure ?_
    refine wpAny_bind (wpAny_bind (wpAny_holding ?_))
    show wpAny _ _ (Builtin.SmallTypes.nextOf (.ref i2) >>= _) _ _ ⟨p1, g, d, tk1, os⟩
    refine wpAny_bind (D2.done ⟨p1, g, d, tk1, os⟩ _ _ (by rw [← hi2]; exact D2.over (D2.over st2 hs0 S.zf2) hp1 S.sep1_2) fun q e hq he => ?_)
    replace hq : Heap.ExtBut i2 p1 q := hq
    exact hE q tk1 e (fun c o c1 c2 c3 x => hq _ _ c3 (hp1.extBut _ _ c2 (hs0.extBut _ _ c1 x))) he
  · have hi1 : i = n1 := by omega
    refine wpAny_bind (D1.done ⟨g0, g, d, tk0, os⟩ _ _ (by rw [← hi1]; exact D1.over st1 hs0 S.zf1) fun q e hq he => ?_)
    replace hq : Heap.ExtBut i1 g0 q := hq
    exact hE q tk0 e (fun c o c1 c2 _ x => hq _ _ c2 (hs0.extBut _ _ c1 x)) he
theorem wpAny_pyNext_zipH2_item {Q : Option Value → Shared → Prop} (S : ZipSep2 z TI TO i1 i2 fp1 fp2) (D1 : Draws prog w A.in1 i1 fp1 n1 P1 St1) (D2 : Draws prog w A.in1 i2 fp2 n2 P2 St2)
    (hz : IsZipHeld s.heap z TI TO T f) (hT : s.heap.get? T = some oT) (hTI : IsTupOf2 s.heap TI (.ref i1) (.ref i2)) (st1 : St1 i s.heap) (st2 : St2 i s.heap) (hlt1 : i < n1) (hlt2 : i < n2)
    (hQ : ∀ x1 x2 h' tk, P1 i x1 → P2 i x2 → IsZipHeld h' z TI TO T true → St1 (i + 1) h' → St2 (i + 1) h' → IsTupOf2 h' s.heap.objs.size x1 x2 → h'.objs.size = s.heap.objs.size + 1 →
      (∀ c o, c ≠ z → c ≠ i1 → c ≠ i2 → s.heap.get? c = some o → h'.get? c = some o) → Q (some (.ref s.heap.objs.size)) { s with heap := h', toks := tk }) :
    wpAny (model prog w) A (pyNext (.ref z)) Q E s := by
  have hTy : s.TypeIs (.ref z) "zip" := ⟨_, hz, rfl⟩
  unfold pyNext
  exact wpAny_bind (wpAny_attempt (wpAny_callSpecial?_slot (name := Str.ofString "__next__") hTy F.slot_zip_next
    (wpAny_call_entry F.slot_zip_next hTy F.entry_zip_next
      (zipH2_next_item S D1 D2 hz hT hTI st1 st2 hlt1 hlt2 fun x1 x2 h' tk y1 y2 b1 d1 d2 b5 b6 b7 => wpAny_pure (hQ x1 x2 h' tk y1 y2 b1 d1 d2 b5 b6 b7)) (F.args_zip_next_1 _))))
theorem wpAny_pyNext_zipH2_end {Q : Option Value → Shared → Prop} (S : ZipSep2 z TI TO i1 i2 fp1 fp2) (D1 : Draws prog w A.in1 i1 fp1 n1 P1 St1) (D2 : Draws prog w A.in1 i2 fp2 n2 P2 St2)
    (hz : IsZipHeld s.heap z TI TO T f) (hT : s.heap.get? T = some oT) (hTI : IsTupOf2 s.heap TI (.ref i1) (.ref i2)) (st1 : St1 i s.heap) (st2 : St2 i s.heap) (hle1 : i ≤ n1) (hle2 : i ≤ n2) (hend : i = n1 ∨ i = n2)
    (hQ : ∀ h' tk, (∀ c o, c ≠ z → c ≠ i1 → c ≠ i2 → s.heap.get? c = some o → h'.get? c = some o) → Q none { s with heap := h', toks := tk }) : wpAny (model prog w) A (pyNext (.ref z)) Q E s := by
  have hTy : s.TypeIs (.ref z) "zip" := ⟨_, hz, rfl⟩
  unfold pyNext
  refine wpAny_bind (wpAny_attempt (wpAny_callSpecial?_slot (name := Str.ofString "__next__") hTy F.slot_zip_next
    (wpAny_call_entry F.slot_zip_next hTy F.entry_zip_next (zipH2_next_end S D1 D2 hz hT hTI st1 st2 hle1 hle2 hend fun h' tk e hk he => ?_) (F.args_zip_next_1 _))))
  obtain ⟨o, ho, hc⟩ := he
  refine wpAny_bind (wpAny_isInstance (T := "StopIteration") (b := true) ⟨o, ho, hc⟩ isSubtype_stop ?_)
  exact wpAny_pure (hQ _ _ hk)
end
end PySem
namespace G
open PySem PySem.Spec PyProof.Rows L2

/-! ### list(zip(a, b)) of two tuples -/
/-- the pairs that the list holds behind i turns -/
def Prs (H : Hp) (xs ys : List V) (vs : List V) : Prop := ∀ (i : Nat) v, vs[i]? = some v → ∃ T x y, v = .ref T ∧ H T = some (.tup [x, y]) ∧ xs[i]? = some x ∧ ys[i]? = some y
theorem Prs.same {H H' : Hp} {xs ys vs : List V} (h : Prs H xs ys vs) (S : Same H H') : Prs H' xs ys vs := fun i v e => by
  obtain ⟨T, x, y, e1, e2, e3, e4⟩ := h i v e
  exact ⟨T, x, y, e1, S _ _ e2, e3, e4⟩
/-- where the zip stands -/
def ZpAt (s : Shared) (H : Hp) (a b z TI TO i1 i2 : Addr) (i : Nat) : Prop :=
  IsTupOf2 s.heap TI (.ref i1) (.ref i2) ∧ (∃ o, s.heap.get? TO = some o) ∧ s.heap.IsTupleIter i1 a i ∧ s.heap.IsTupleIter i2 b i ∧
    ((IsZip s.heap z TI TO .none ∧ ∃ x y, IsTupOf2 s.heap TO x y) ∨ ∃ T f xs, IsZipHeld s.heap z TI TO T f ∧ H T = some (.tup xs))
theorem zpAt_keep {s s' : Shared} {H H' : Hp} {a b z TI TO i1 i2 : Addr} {i : Nat} (h : ZpAt s H a b z TI TO i1 i2 i) (k : ∀ c ∈ [z, TI, TO, i1, i2], ∀ o, s.heap.get? c = some o → s'.heap.get? c = some o) (S : ∀ T xs, H T = some (.tup xs) → H' T = some (.tup xs)) : ZpAt s' H' a b z TI TO i1 i2 i := by
  obtain ⟨g2, ⟨oO, gO⟩, g4, g5, g⟩ := h
  refine ⟨k TI (by simp) _ g2, ⟨oO, k TO (by simp) _ gO⟩, Heap.IsTupleIter.at g4 fun o q => k i1 (by simp) o q, Heap.IsTupleIter.at g5 fun o q => k i2 (by simp) o q, ?_⟩
  rcases g with ⟨g1, x, y, g3⟩ | ⟨T, f, xs, g1, g3⟩
  · exact .inl ⟨k z (by simp) _ g1, x, y, k TO (by simp) _ g3⟩
  · exact .inr ⟨T, f, xs, k z (by simp) _ g1, S _ _ g3⟩
/-- the draining -/
theorem drain_zip {X : Cx} {pins : List (Addr × Obj)} {σ : L2.St} {N a b z TI TO i1 i2 S : Addr} {xs ys : List V} {A : Around} {R : Result → Shared → Prop} {res : Value} (D : Apart N a b z TI TO i1 i2) (hh : A.handled = none)
    (hS : S ∉ [z, TI, TO, i1, i2]) {H0 : Hp} (hS0 : H0 S = none) (hfew : min xs.length ys.length ≤ 1000)
    (hR : ∀ H' s' vs, Inv X pins σ H' s' → H' S = some (.lst vs) → vs.length = min xs.length ys.length → Prs H' xs ys vs → Same H0 H' → R (.ok (.ret res)) s') :
    ∀ (k i : Nat) (s : Shared) (H : Hp) (vs : List V), min xs.length ys.length - i = k → i ≤ min xs.length ys.length → vs.length = i → Inv X pins σ H s → H S = some (.lst vs) → H a = some (.tup xs) → H b = some (.tup ys) → Prs H xs ys vs → Same H0 H →
      (∀ c ∈ [z, TI, TO, i1, i2], FpOk X pins H c) → ZpAt s H a b z TI TO i1 i2 i →
      codeAny (model X.prog X.w) A (.builtin "list.extend.loop" ⟨[.ref S, .ref z, res], []⟩) R s := by
  have sep := D.sep
  have hz0 : z ∉ [i1, a] ∧ z ∉ [i2, b] := ⟨sep.zf1, sep.zf2⟩
  have n1 : a ≠ i1 := by obtain ⟨la, lb, _, _, _, e1, _⟩ := D; rw [e1]; exact Nat.ne_of_lt la
  have n2 : b ≠ i2 := by obtain ⟨la, lb, _, _, _, _, e2⟩ := D; rw [e2]; exact Nat.ne_of_lt (Nat.lt_succ_of_lt lb)
  have hfz : ∀ {c : Addr}, c ≠ z → c ≠ TI → c ≠ TO → c ≠ i1 → c ≠ i2 → c ∉ [z, TI, TO, i1, i2] := fun a1 a2 a3 a4 a5 h => by
    simp only [List.mem_cons, List.not_mem_nil, or_false] at h
    rcases h with h | h | h | h | h
    · exact a1 h
    · exact a2 h
    · exact a3 h
    · exact a4 h
    · exact a5 h
  intro k
  induction k with
  | zero =>
    intro i s H vs hk hi hl I hSl ha hb hp S0 hf st
    obtain ⟨its, rv, p, _⟩ := I.tuple (SqT.of ha)
    obtain ⟨its2, rv2, p2, _⟩ := I.tuple (SqT.of hb)
    have l1 := rv.length
    have l2 := rv2.length
    obtain ⟨g2, ⟨oO, gO⟩, g4, g5, g⟩ := st
    refine codeAny_builtin F.entry_extend_loop ?_
    rw [Around.under_plainId F.plain_extend_loop _]
    show wpAny _ A.in1 (pyNext (.ref z) >>= _) _ _ s
    refine wpAny_bind ?_
    rcases g with ⟨g1, x, y, g3⟩ | ⟨T, f, zs, g1, g3⟩
    · refine wpAny_pyNext_zipD2_end sep (draw .tu (show A.in1.in1.handled = none from hh) i1 a n1 its.toArray) (draw .tu (show A.in1.in1.handled = none from hh) i2 b n2 its2.toArray) g1 g2 g3 ⟨g4, p⟩ ⟨g5, p2⟩ (by simp; omega) (by simp; omega) (by simp; omega) fun h' tk hk => ?_
      exact wpAny_pure (hR H _ vs (I.turnedL (t' := tk) (ch := [z, TI, TO, i1, i2]) (fun c o hb q =>
        hk c o (fun q' => hb (by simp [q'])) (fun q' => hb (by simp [q'])) (fun q' => hb (by simp [q'])) (fun q' => hb (by simp [q'])) q) hf) hSl (by omega) hp S0)
    · obtain ⟨its3, rv3, ⟨o3, ho3, _⟩, _⟩ := I.tuple (SqT.of g3)
      refine wpAny_pyNext_zipH2_end sep (draw .tu (show A.in1.in1.handled = none from hh) i1 a n1 its.toArray) (draw .tu (show A.in1.in1.handled = none from hh) i2 b n2 its2.toArray) g1 ho3 g2 ⟨g4, p⟩ ⟨g5, p2⟩ (by simp; omega) (by simp; omega) (by simp; omega) fun h' tk hk => ?_
      exact wpAny_pure (hR H _ vs (I.turnedL (t' := tk) (ch := [z, TI, TO, i1, i2]) (fun c o hb q =>
        hk c o (fun q' => hb (by simp [q'])) (fun q' => hb (by simp [q'])) (fun q' => hb (by simp [q'])) q) hf) hSl (by omega) hp S0)
  | succ k ih =>
    intro i s H vs hk hi hl I hSl ha hb hp S0 hf st
    obtain ⟨its, rv, p, _⟩ := I.tuple (SqT.of ha)
    obtain ⟨its2, rv2, p2, _⟩ := I.tuple (SqT.of hb)
    have l1 := rv.length
    have l2 := rv2.length
    have hi1 : i < xs.length := by omega
    have hi2 : i < ys.length := by omega
    obtain ⟨u, hu, ru⟩ := rv.get (List.getElem?_eq_getElem hi1)
    obtain ⟨u2, hu2, ru2⟩ := rv2.get (List.getElem?_eq_getElem hi2)
    obtain ⟨g2, ⟨oO, gO⟩, g4, g5, g⟩ := st
    have hzl : ∀ c ∈ [z, TI, TO, i1, i2], H c = none := fun c hc => (hf c hc).1
    refine codeAny_builtin F.entry_extend_loop ?_
    rw [Around.under_plainId F.plain_extend_loop _]
    show wpAny _ A.in1 (pyNext (.ref z) >>= _) _ _ s
    refine wpAny_bind ?_
    have cont : ∀ (v1 v2 : Value) (h' : Heap) (tk : Nat), its.toArray[i]? = some v1 → its2.toArray[i]? = some v2 → IsTupOf2 h' s.heap.objs.size v1 v2 → (∃ T f zs, IsZipHeld h' z TI TO T f ∧ upd H s.heap.objs.size (.tup [xs[i], ys[i]]) T = some (.tup zs)) → (∃ o, h'.get? TO = some o) → h'.IsTupleIter i1 a (i + 1) → h'.IsTupleIter i2 b (i + 1) →
        (∀ c o, c ∉ [z, TO, i1, i2] → s.heap.get? c = some o → h'.get? c = some o) →
        wpAny (model X.prog X.w) A.in1 (updateSeq S (·.push (.ref s.heap.objs.size)) >>= fun _ => again (.builtin "list.extend.loop" ⟨[.ref S, .ref z, res], []⟩))
          (fun fin s' => match fin with | .done f => R (.ok f) s' | .again c' => c'.quiet = true ∧ codeAny (model X.prog X.w) A c' R s') (fun e s' => R (.error e) s') { s with heap := h', toks := tk } := by
      intro v1 v2 h' tk ev1 ev2 hT ⟨Tz, f, zs, hZ, hTz⟩ ⟨oO', gO'⟩ a1 a2 hkk
      have ev1 : v1 = u := by
        have z : its.toArray[i]? = some u := by simpa using hu
        rw [z] at ev1
        exact (Option.some.inj ev1).symm
      have ev2 : v2 = u2 := by
        have z : its2.toArray[i]? = some u2 := by simpa using hu2
        rw [z] at ev2
        exact (Option.some.inj ev2).symm
      subst ev1 ev2
      have hTn : H s.heap.objs.size = none := I.hok.fresh (Nat.le_refl _)
      have new : ObjOk X.prog X.w (upd H s.heap.objs.size (.tup [xs[i], ys[i]])) h' s.heap.objs.size (.tup [xs[i], ys[i]]) :=
        ⟨by show 2 ≤ sizeLine; decide, [v1, v2], .cons ru (.cons ru2 .nil), ⟨_, hT, rfl, _, rfl⟩⟩
      have I1 : Inv X pins σ (upd H s.heap.objs.size (.tup [xs[i], ys[i]])) { s with heap := h', toks := tk } :=
        I.turnedNew (t' := tk) (ch := [z, TI, TO, i1, i2]) (fun c o hb q => hkk c o (fun q' => hb (by
          simp only [List.mem_cons, List.not_mem_nil, or_false] at q' ⊢
          rcases q' with h | h | h | h <;> simp [h])) q) hf (Nat.le_refl _) new
      have S1 : Same H (upd H s.heap.objs.size (.tup [xs[i], ys[i]])) := same_new hTn
      have hS1 := S1 _ _ hSl
      obtain ⟨z1, itl, n, r, hll, e⟩ := I1.lstM hS1
      have I2 := I1.lset (t' := tk) (f := (·.push (.ref s.heap.objs.size))) (its' := itl ++ [.ref s.heap.objs.size]) hS1 e (by simp) (r.append (.cons (show RelV (.ref s.heap.objs.size) (.ref s.heap.objs.size) from rfl) .nil)) (by rw [List.length_append, List.length_singleton, sizeLine_eq]; omega)
      have lits : itl.length = i := by omega
      refine wpAny_bind ?_
      refine wpAny_updateSeq e rfl (wpAny_pure ⟨plainId_quiet F.plain_extend_loop _, ?_⟩) (by rw [sizeLine_eq]; simp; omega) (by
        show (itl.toArray.push _).size ≤ sizeLine + 1
        rw [sizeLine_eq]; simp; omega)
      have tups : ∀ T zs, upd H s.heap.objs.size (.tup [xs[i], ys[i]]) T = some (.tup zs) → upd (upd H s.heap.objs.size (.tup [xs[i], ys[i]])) S (.lst (vs ++ [.ref s.heap.objs.size])) T = some (.tup zs) := fun T zs h => by
        rw [upd_ne (fun z => by rw [z, hS1] at h; cases h)]
        exact h
      refine ih (i + 1) _ _ (vs ++ [.ref s.heap.objs.size]) (by omega) (by omega) (by rw [List.length_append, hl]; rfl) I2 upd_same (tups _ _ (S1 _ _ ha)) (tups _ _ (S1 _ _ hb)) (fun j v hv => ?_) (fun c o hc => by
        rw [upd_ne (ne_of_none hc hS0)]
        exact S1 _ _ (S0 _ _ hc)) (fun c hc => ⟨?_, (hf c hc).2⟩) ?_
      · rcases Nat.lt_or_ge j vs.length with h | h
        · rw [List.getElem?_append_left h] at hv
          obtain ⟨T, x, y, e1, e2, e3, e4⟩ := hp j v hv
          exact ⟨T, x, y, e1, tups _ _ (S1 _ _ e2), e3, e4⟩
        · have hj : j = i := by
            have := (List.getElem?_eq_some_iff.mp hv).1
            rw [List.length_append, List.length_singleton] at this
            omega
          rw [List.getElem?_append_right h, hj, hl, Nat.sub_self] at hv
          cases hv
          rw [hj]
          exact ⟨_, _, _, rfl, tups _ _ upd_same, List.getElem?_eq_getElem hi1, List.getElem?_eq_getElem hi2⟩
      · rw [upd_ne (fun e : c = S => hS (e ▸ hc)), upd_ne (fun e : c = s.heap.objs.size => ?_)]
        · exact hzl c hc
        · have : c < s.heap.objs.size := by
            simp only [List.mem_cons, List.not_mem_nil, or_false] at hc
            rcases hc with q | q | q | q | q <;> rw [q]
            · rcases g with ⟨g1, _⟩ | ⟨T, f, zs, g1, _⟩ <;> exact Heap.lt_size g1
            · exact Heap.lt_size g2
            · exact Heap.lt_size gO
            · obtain ⟨_, e, _⟩ := g4; exact Heap.lt_size e
            · obtain ⟨_, e, _⟩ := g5; exact Heap.lt_size e
          exact absurd (e ▸ this) (Nat.lt_irrefl _)
      · have up : ∀ c, c ∈ [z, TI, TO, i1, i2] → ∀ o, h'.get? c = some o → (h'.update S (Obj.mapSeq (·.push (.ref s.heap.objs.size)))).get? c = some o := fun c hc o q => (Heap.get?_update_other _ _ (fun e : S = c => hS (e ▸ hc))).trans q
        refine ⟨up TI (by simp) _ (hkk TI _ (fun h => ?_) g2), ⟨_, up TO (by simp) _ gO'⟩, Heap.IsTupleIter.at a1 fun o q => up i1 (by simp) o q, Heap.IsTupleIter.at a2 fun o q => up i2 (by simp) o q, .inr ⟨_, f, _, up z (by simp) _ hZ, tups _ _ hTz⟩⟩
        simp only [List.mem_cons, List.not_mem_nil, or_false] at h
        rcases h with h | h | h | h
        · exact sep.TIz h
        · exact sep.TITO h
        · exact sep.TIi1 h
        · exact sep.TIi2 h
    rcases g with ⟨g1, x, y, g3⟩ | ⟨T, f, zs, g1, g3⟩
    · refine wpAny_pyNext_zipD2_item sep (draw .tu (show A.in1.in1.handled = none from hh) i1 a n1 its.toArray) (draw .tu (show A.in1.in1.handled = none from hh) i2 b n2 its2.toArray) g1 g2 g3 ⟨g4, p⟩ ⟨g5, p2⟩ (by simp; omega) (by simp; omega) fun v1 v2 h' tk ev1 ev2 z' TO' s1' s2' hT hsz hk => ?_
      exact cont v1 v2 h' tk ev1 ev2 hT ⟨_, _, _, z', upd_same⟩ ⟨_, TO'⟩ s1'.1 s2'.1 fun c o hc q => hk c o (fun q' => hc (by simp [q'])) (fun q' => hc (by simp [q'])) (fun q' => hc (by simp [q'])) (fun q' => hc (by simp [q'])) q
    · obtain ⟨its3, rv3, ⟨o3, ho3, _⟩, _⟩ := I.tuple (SqT.of g3)
      refine wpAny_pyNext_zipH2_item sep (draw .tu (show A.in1.in1.handled = none from hh) i1 a n1 its.toArray) (draw .tu (show A.in1.in1.handled = none from hh) i2 b n2 its2.toArray) g1 ho3 g2 ⟨g4, p⟩ ⟨g5, p2⟩ (by simp; omega) (by simp; omega) fun v1 v2 h' tk ev1 ev2 z' s1' s2' hT hsz hk => ?_
      exact cont v1 v2 h' tk ev1 ev2 hT ⟨_, _, _, z', same_new (I.hok.fresh (Nat.le_refl _)) _ _ g3⟩ ⟨_, hk TO _ sep.TOz sep.Ti1 sep.Ti2 gO⟩ s1'.1 s2'.1 fun c o hc q => hk c o (fun q' => hc (by simp [q'])) (fun q' => hc (by simp [q'])) (fun q' => hc (by simp [q'])) q

/-- list(zip(a, b)): a new list of new pairs -/
def tLstZip (ta : TA) : TE := fun σ H Q => ta σ H fun vs H1 => ∃ a b xs ys, vs = [.ref a, .ref b] ∧ H1 a = some (.tup xs) ∧ H1 b = some (.tup ys) ∧ min xs.length ys.length ≤ 1000 ∧
  ∀ l ws H2, H1 l = none → Same H1 H2 → H2 l = some (.lst ws) → ws.length = min xs.length ys.length → Prs H2 xs ys ws → Q (.ref l) H2
theorem pe_listZip {X : Cx} {e e2 : Expr} {ta : TA} {p p2 q pos : Pos} (hc : X.calm = true) (hg : Gl X "list") (hm : X.mg "list" = none) (hg2 : Gl X "zip") (hm2 : X.mg "zip" = none) (ha : PA X [e, e2] ta)
    (na : starEach [.Call (.Name "zip" p2) [e, e2] [] q] X.env = (false, eval (.Call (.Name "zip" p2) [e, e2] [] q) X.env) :: starEach [] X.env := by rfl)
    (hs : starEach [e, e2] X.env = (false, eval e X.env) :: starEach [e2] X.env := by rfl) (hpl : (backTo q (starEach [e2] X.env)).any (·.1) = false := by rfl) :
    PE X (.Call (.Name "list" p) [.Call (.Name "zip" p2) [e, e2] [] q] [] pos) (tLstZip ta) := by
  refine ⟨fun pins s σ H Q I h => ?_⟩
  refine Call_ (ld_blt I hg hm boot_list (PyProof.Rows.callWith_type1 (PyProof.Rows.args_cons (Call_ (ld_blt I hg2 hm2 PyProof.Rows.boot_zip (PyProof.Rows.callWith_type1 (thn (ha.run q pins s σ H _ I h) fun us s1 ⟨vs, H1, I1, r1, q1⟩ => ?_) hs hpl))) na) na))
  obtain ⟨a, b, xs, ys, rfl, hqx, hqy, few, q⟩ := q1
  cases r1 with
  | cons r rr =>
    cases rr with
    | cons r' rr =>
      cases rr
      cases r
      cases r'
      obtain ⟨its, rv, p1, _⟩ := I1.tuple (SqT.of hqx)
      obtain ⟨its2, rv2, pt2, _⟩ := I1.tuple (SqT.of hqy)
      have la : a < s1.heap.objs.size := by obtain ⟨o, ho, _⟩ := id p1; exact Heap.lt_size ho
      have lb : b < s1.heap.objs.size := by obtain ⟨o, ho, _⟩ := id pt2; exact Heap.lt_size ho
      refine zip_begins2 (begins_tuple a its.toArray) (begins_tuple b its2.toArray) p1 pt2 fun h' hz hTI hTO h1 h2 hsz hk => PyProof.Rows.args_nil ?_
      have I2 : Inv X pins σ H1 { s1 with heap := h' } := I1.kept (t' := s1.toks) hk
      have hS5 : ∀ c ∈ [s1.heap.objs.size + 4, s1.heap.objs.size + 2, s1.heap.objs.size + 3, s1.heap.objs.size, s1.heap.objs.size + 1], c < h'.objs.size := fun c hcm => by
        rw [hsz]
        simp only [List.mem_cons, List.not_mem_nil, or_false] at hcm
        rcases hcm with z | z | z | z | z <;> rw [z]
        · exact Nat.add_lt_add_left (show 4 < 5 by decide) _
        · exact Nat.add_lt_add_left (show 2 < 5 by decide) _
        · exact Nat.add_lt_add_left (show 3 < 5 by decide) _
        · exact Nat.add_lt_add_left (show 0 < 5 by decide) _
        · exact Nat.add_lt_add_left (show 1 < 5 by decide) _
      have hSf : h'.objs.size ∉ [s1.heap.objs.size + 4, s1.heap.objs.size + 2, s1.heap.objs.size + 3, s1.heap.objs.size, s1.heap.objs.size + 1] := fun hm => Nat.lt_irrefl _ (hS5 _ hm)
      have hSz : h'.objs.size ≠ s1.heap.objs.size + 4 := fun e => hSf (by rw [e]; simp)
      have hSn : H1 h'.objs.size = none := I2.hok.fresh (Nat.le_refl _)
      refine callType_codes (s := { s1 with heap := h' }) (Q₁ := fun obj s₁ => obj = .ref h'.objs.size ∧ s₁ = { s1 with heap := h'.push { cls := .type "list", data := .seq #[] } }) F.called_list (F.typeCall_list_1 _) F.entry_list_init
        (code_list_new (s := { s1 with heap := h' }) _ ⟨rfl, rfl⟩) fun obj s₁ h₁ => ?_
      obtain ⟨rfl, rfl⟩ := h₁
      have hS : (h'.push { cls := .type "list", data := .seq #[] }).get? h'.objs.size = some { cls := .type "list", data := .seq #[] } := Heap.get?_push_size _ rfl
      refine ⟨⟨_, hS, rfl⟩, F.args_list_init_2 _ _, ?_⟩
      show wpAny _ X.A.in1.in1 (do let old ← Builtin.List.listItems (.ref h'.objs.size); Builtin.List.listUpdate (.ref h'.objs.size) (fun _ => #[]); letGo old.toList.reverse; Builtin.List.listExtendWith (.ref h'.objs.size) (.ref (s1.heap.objs.size + 4)) .none) _ _ _
      refine wpAny_bind ?_
      unfold Builtin.List.listItems
      refine wpAny_bind (wpAny_seqItems hS rfl (wpAny_pure ?_))
      show wpAny _ X.A.in1.in1 (updateSeq h'.objs.size (fun _ => #[]) >>= fun _ => letGo (#[] : Array Value).toList.reverse >>= fun _ => Builtin.List.listExtendWith (.ref h'.objs.size) (.ref (s1.heap.objs.size + 4)) .none) _ _ _
      refine wpAny_bind (wpAny_updateSeq hS rfl ?_)
      have hS2 := Heap.get?_update_self (Obj.mapSeq (fun _ => (#[] : Array Value))) hS rfl
      refine wpAny_bind (wpAny_letGo ?_)
      unfold Builtin.List.listExtendWith
      have up : ∀ (h : Heap) (f : Obj → Obj), (∀ b o, h'.get? b = some o → h.get? b = some o) → ∀ b o, h'.get? b = some o → (h.update h'.objs.size f).get? b = some o := fun h f q b o e =>
        (Heap.get?_update_other _ _ (Ne.symm (Nat.ne_of_lt (Heap.lt_size e)))).trans (q b o e)
      have k1 : ∀ b o, h'.get? b = some o → (h'.push { cls := .type "list", data := .seq #[] }).get? b = some o := fun b o e => Heap.get?_push_of_some _ e
      have k2 := up _ (Obj.mapSeq (fun _ => (#[] : Array Value))) k1
      refine wpAny_bind (wpAny_typeOf ⟨_, k2 _ _ hz, rfl⟩ ?_)
      have t1 : Builtin.List.listSameRef (.ref h'.objs.size) (.ref (s1.heap.objs.size + 4)) = false := by simp [Builtin.List.listSameRef, hSz]
      have t2 : (Value.type "zip" == Value.type "list") = false := by decide
      have t3 : (Value.type "zip" == Value.type "tuple") = false := by decide
      simp only [t1, t2, t3, Bool.or_false, Bool.false_eq_true, if_false]
      refine wpAny_bind (wpAny_pyIter_zip (k2 _ _ hz) ?_)
      refine wpAny_bind (wpAny_holding ?_)
      unfold Builtin.List.listLengthHint
      refine wpAny_bind (wpAny_specialOf ⟨_, k2 _ _ hz, rfl⟩ zip_no_len ?_)
      show wpAny _ X.A.in1.in1 (specialOf (Value.ref (s1.heap.objs.size + 4)) (Str.ofString "__length_hint__") >>= _) _ _ _
      refine wpAny_bind (wpAny_specialOf ⟨_, k2 _ _ hz, rfl⟩ zip_no_hint ?_)
      refine wpAny_pure ?_
      show wpAny _ X.A.in1.in1 (rule "list.extend.makes-room" >>= fun _ => Builtin.List.listTouch (.ref h'.objs.size) >>= fun _ =>
        again (.builtin "list.extend.loop" ⟨[.ref h'.objs.size, .ref (s1.heap.objs.size + 4), .none], []⟩)) _ _ _
      refine wpAny_bind (wpAny_rule ?_)
      refine wpAny_bind ?_
      show wpAny _ X.A.in1.in1 (updateSeq h'.objs.size (·.push .none) >>= fun _ => updateSeq h'.objs.size (·.pop)) _ _ _
      refine wpAny_bind (wpAny_updateSeq hS2 rfl ?_)
      have hS3 := Heap.get?_update_self (Obj.mapSeq (·.push Value.none)) hS2 rfl
      refine wpAny_updateSeq (hz := by seq_fits) hS3 rfl ?_
      have hS4 := Heap.get?_update_self (Obj.mapSeq (·.pop)) hS3 rfl
      have k4 := up _ (Obj.mapSeq (·.pop)) (up _ (Obj.mapSeq (·.push Value.none)) k2)
      refine wpAny_pure ⟨plainId_quiet F.plain_extend_loop _, ?_⟩
      have I3 := I2.laid (o := .lst []) (t' := s1.toks) k4 (Nat.le_refl _) ⟨Nat.zero_le _, [], _, .nil, hS4⟩
      have S3 : Same H1 (upd H1 h'.objs.size (.lst [])) := same_new hSn
      refine drain_zip (X := X) (pins := pins) (σ := σ) (H0 := H1) (A := X.A.in1) ⟨la, lb, rfl, rfl, rfl, rfl, rfl⟩ (I.ok.hd hc) hSf hSn few (fun H' s' vs I4 e1 e2 e3 e4 => ⟨rfl, .ref h'.objs.size, H', I4, rfl, q _ vs H' hSn e4 e1 e2 e3⟩)
        _ 0 _ _ [] rfl (Nat.zero_le _) rfl I3 upd_same (S3 _ _ hqx) (S3 _ _ hqy) (fun i v h => by simp at h) S3 (fun c hcm => ?_) ⟨k4 _ _ hTI, ⟨_, k4 _ _ hTO⟩, itOf_new (k := .tu) (k4 _ _ h1), itOf_new (k := .tu) (k4 _ _ h2), .inl ⟨k4 _ _ hz, _, _, k4 _ _ hTO⟩⟩
      have hle : s1.heap.objs.size ≤ c := by
        simp only [List.mem_cons, List.not_mem_nil, or_false] at hcm
        rcases hcm with z | z | z | z | z <;> rw [z]
        · exact Nat.le_add_right _ _
        · exact Nat.le_add_right _ _
        · exact Nat.le_add_right _ _
        · exact Nat.le_refl _
        · exact Nat.le_add_right _ _
      refine I1.fpOk hle ?_
      rw [upd_ne (Nat.ne_of_lt (hS5 c hcm))]
      exact I1.hok.fresh hle
end G

namespace My
open PySem PySem.Spec PyProof.Rows L2 G
abbrev s__law_edges : Stmt := topS 58
theorem sc__law_edges : FnScope ["_law_corners_here"] ["_law_corners_here"] (defScope s__law_edges) := ⟨rfl, rfl, rfl, by decide +kernel, rfl, by decide +kernel, by decide +kernel⟩

theorem slA_cut {K : PySem.W.Frag} {H : Hp} {a : Addr} {xs : List V} {lo hi : Option Int} {Q : VK} (ha : H a = some (.tup xs)) (q : ∀ b H1, Same H H1 → H1 b = some (.tup (cutV xs lo hi)) → Q (.ref b) H1) : rSlA K (.ref a) lo hi H Q := by
  refine ⟨a, xs, rfl, SqT.of ha, fun e => ?_, fun _ p hp => q p _ (same_new hp) upd_same⟩
  refine q a H (Same.refl _) ?_
  have : cutV xs lo hi = xs := by
    unfold cutV
    rw [e.1, e.2, List.drop_zero, Nat.sub_zero, List.take_length]
  rw [this]
  exact ha
section
variable {P : Program} {w : World} {K : PySem.W.Frag} {mg : Str → Option Value} {base : Heap} {a : Ad}
theorem ok__law_edges {fd : FuncData} (F : Fun K "_law_edges" "_law_edges" s__law_edges a._law_edges fd) (T : Txt K mg a) :
    Fn P w K mg base CX0 1 a._law_edges fd ["_law_corners_here"] spEdges := by
  refine ok F sc__law_edges (fun vs H Q E h => ?len) (fun cdv A outer s H vs Q E hq hr h => ⟨_,
      (pss_one (ps_ret (pe_listZip rfl (by rfl) T.n_list (by rfl) T.n_zip (pa_cons (pv 0) (pa_cons (pe_op op_catA (pe_slice sl_tupA (pv 0) (po_some pe_int) po_none) (pe_slice sl_tupA (pv 0) po_none (po_some pe_int))) pa_nil))))), ?body⟩)
  case len => obtain ⟨t, us, ps, rfl, _⟩ := h; rfl
  case body =>
    obtain ⟨t, us, ps, rfl, ht, hp, hl, q⟩ := h
    have hsz := sizeLine_eq
    have hpl := hp.length
    refine ⟨_, rfl, _, rfl, 1, rfl, ?_⟩
    unfold tNoPart
    refine slA_cut (lo := some 1) ht fun b H1 S1 hb => ⟨_, rfl, 1, rfl, ?_⟩
    refine slA_cut (hi := some 1) (S1 _ _ ht) fun c H2 S2 hc => ?_
    rw [show cutV us (some 1) none = us.drop 1 from cutV_suf us 1] at hb
    rw [show cutV us none (some 1) = us.take 1 from cutV_pre us 1] at hc
    refine catA_any (S2 _ _ hb) hc (by rw [List.length_drop, List.length_take]; omega) fun d H3 S3 hd _ => ?_
    have S03 := (S1.trans S2).trans S3
    have elen : (us.drop 1 ++ us.take 1).length = us.length := by rw [List.length_append, List.length_drop, List.length_take]; omega
    refine ⟨t, d, us, _, rfl, S03 _ _ ht, hd, by omega, fun l ws H4 nl S4 hl4 lw pw => ?_⟩
    have S04 := S03.trans S4
    refine q l ws H4 ?_ S04 hl4 (paired_of (by rw [lw, elen, Nat.min_self, eds_len, hpl]) fun i v e hv he => ?_)
    · cases z : H l with
      | none => rfl
      | some o => rw [S03 _ _ z] at nl; cases nl
    · obtain ⟨T, x, y, rfl, hT, hx, hy⟩ := pw i v hv
      unfold eds at he
      rw [List.getElem?_zip_eq_some] at he
      obtain ⟨he1, he2⟩ := he
      obtain ⟨X, hX, pX⟩ := paired_at hp hx
      rw [hX] at he1
      cases he1
      have hp2 : Pls H (us.drop 1 ++ us.take 1) (ps.drop 1 ++ ps.take 1) := paired_of (by rw [List.length_append, List.length_append, List.length_drop, List.length_take, List.length_drop, List.length_take, hpl]) fun j u z e1 e2 => by
        rcases Nat.lt_or_ge j (us.drop 1).length with h | h
        · rw [List.getElem?_append_left h, List.getElem?_drop] at e1
          rw [List.getElem?_append_left (by rw [List.length_drop] at h ⊢; omega), List.getElem?_drop] at e2
          obtain ⟨Z, hZ, pZ⟩ := paired_at hp e1
          rw [hZ] at e2
          cases e2
          exact pZ
        · rw [List.getElem?_append_right h, List.length_drop] at e1
          have hj := (List.getElem?_eq_some_iff.mp e1).1
          rw [List.length_take] at hj
          rw [List.getElem?_append_right (by rw [List.length_drop] at h ⊢; omega), List.length_drop] at e2
          rw [List.getElem?_take_of_lt (by omega)] at e1
          rw [List.getElem?_take_of_lt (by omega)] at e2
          obtain ⟨Z, hZ, pZ⟩ := paired_at hp e1
          rw [← hpl, hZ] at e2
          cases e2
          exact pZ
      obtain ⟨Y, hY, pY⟩ := paired_at hp2 hy
      rw [hY] at he2
      cases he2
      obtain ⟨tx, rfl, ex⟩ := pX
      obtain ⟨ty, rfl, ey⟩ := pY
      exact ⟨T, tx, ty, rfl, hT, S04 _ _ ex, S04 _ _ ey⟩
end
end My

namespace My
open PySem PySem.Spec PyProof.Rows L2 G
abbrev s__law_is_land : Stmt := topS 60
theorem sc__law_is_land : FnScope ["_law_value", "_law_place", "_law_one", "_law_other", "_law_others", "_law_x"] ["_law_value"] (defScope s__law_is_land) := ⟨rfl, rfl, rfl, by decide +kernel, rfl, by decide +kernel, by decide +kernel⟩

def spIsLand : Sp := fun vs H Q _ => ∃ v d, vs = [v] ∧ Da H v d ∧ ∀ H', Same H H' → Q (.bl (landD d).isSome) H'
theorem isI2 (d : PyData) : (match d with | .int i => decide (-999 ≤ i ∧ i ≤ 999) | _ => false) = okI d := by
  cases d with
  | int i =>
    show decide (-999 ≤ i ∧ i ≤ 999) = decide ((if i < 0 then -i else i) ≤ 999)
    refine decide_eq_decide.mpr ?_
    split <;> omega
  | _ => rfl
theorem cors_bad {ds : List PyData} {j : Nat} {e : PyData} (h : ds[j]? = some e) (n : (corD e).isSome = false) : landD (.tuple ds) = none := by
  refine land_no2 ?_
  have := corsD_some ds
  cases c : corsD ds with
  | none => rfl
  | some ps =>
    rw [c] at this
    have := List.all_eq_true.mp this.symm e (List.mem_of_getElem? h)
    rw [n] at this
    cases this
theorem land_edge {ds : List PyData} {ps : List PP} (h3 : 3 ≤ ps.length) (h : corsD ds = some ps) (n : ¬ LawB ps) : landD (.tuple ds) = none :=
  land_no3 h (by rw [← Bool.not_eq_true, goes_law h3]; exact n)
section
variable {P : Program} {w : World} {K : PySem.W.Frag} {mg : Str → Option Value} {base : Heap} {a : Ad}
theorem ok__law_is_land {fd : FuncData} (F : Fun K "_law_is_land" "_law_is_land" s__law_is_land a._law_is_land fd) (T : Txt K mg a)
    {fd__law_edges : FuncData} (G__law_edges : Fn P w K mg base CX0 1 a._law_edges fd__law_edges ["_law_corners_here"] spEdges) (b__law_edges : Binds K fd__law_edges ["_law_corners_here"] [])
    {fd__law_height : FuncData} (G__law_height : Fn P w K mg base CX0 1 a._law_height fd__law_height ["_law_one", "_law_other", "_law_dot"] spHeight) (b__law_height : Binds K fd__law_height ["_law_one", "_law_other", "_law_dot"] [])
    {fd__law_is_int : FuncData} (G__law_is_int : Fn P w K mg base CX0 1 a._law_is_int fd__law_is_int ["_law_value", "_law_low", "_law_high"] spIsInt2) (b__law_is_int : Binds K fd__law_is_int ["_law_value", "_law_low", "_law_high"] []) :
    Fn P w K mg base CX0 3 a._law_is_land fd ["_law_value"] spIsLand := by
  refine ok F sc__law_is_land (fun vs H Q E h => ?len) (fun cdv A outer s H vs Q E hq hr h => ⟨_,
      (pss_cons (ps_if (PW.pt (pw_or (pt_not (pt_val (pe_callB call_isi (by rfl) T.n_isinstance (by decide +kernel) (pa_cons (pv 0) (pa_cons (pe_bltn (v := .ty "tuple") (u := .type "tuple") (by rfl) T.n_tuple (by decide +kernel) rfl) pa_nil))))) (pw_or1 (pt_not (pt_chain op_le op_le pe_int (pe_callB call_len_seq (by rfl) T.n_len (by decide +kernel) (pa_cons (pv 0) pa_nil)) pe_int))))) (pss_one (ps_ret pe_bl)) pss_nil)
      (pss_cons (ps_for PassesOwn.never rfl (pi_tup (pv 0)) (pg_name (i := 1) sc__law_is_land.nd rfl (Or.inl rfl)) (pss_one (ps_if (PW.pt (pw_or (pt_not (pt_val (pe_callB call_isi (by rfl) T.n_isinstance (by decide +kernel) (pa_cons (pv 1) (pa_cons (pe_bltn (v := .ty "tuple") (u := .type "tuple") (by rfl) T.n_tuple (by decide +kernel) rfl) pa_nil))))) (pw_or (pt_cmpR op_ne (pe_callB call_len_seq (by rfl) T.n_len (by decide +kernel) (pa_cons (pv 1) pa_nil)) pe_int (nomark _)) (pw_or1 (pt_not (pt_val (pe_callB (cr_all rfl) (by rfl) T.n_all (by decide +kernel) (pa_cons (pe_lc (own := [("_law_x", 5)]) (g := gName 5) (tt := tYes) rfl sc__law_is_land.nd (pi_tup (pv 1)) (blkOk_by (own := [("_law_x", 5)]) (N := ["_law_value", "_law_place", "_law_one", "_law_other", "_law_others", "_law_x"]) (sc := defScope s__law_is_land) (by decide +kernel)) (fun _ _ _ _ _ => (pg_name (i := 5) sc__law_is_land.nd rfl (Or.inl rfl))) (fun _ _ _ _ _ => pts_nil) (fun _ _ _ _ _ => (pe_fn G__law_is_int hq (hr.mono (by omega)) (by rfl) T.g__law_is_int T.k__law_is_int b__law_is_int .nil pass0 (pa_cons (pv 5) (pa_cons (pe_un un_neg pe_int) (pa_cons pe_int pa_nil)))))) pa_nil)))))))) (pss_one (ps_ret pe_bl)) pss_nil)))
      (pss_cons (ps_for PassesOwn.never rfl (pi_list (pe_fn G__law_edges hq (hr.mono (by omega)) (by rfl) T.g__law_edges T.k__law_edges b__law_edges .nil pass0 (pa_cons (pv 0) pa_nil))) (pg_tup rfl (pgs_cons (pg_name (i := 2) sc__law_is_land.nd rfl (Or.inr rfl)) (pgs_cons (pg_name (i := 3) sc__law_is_land.nd rfl (Or.inr rfl)) pgs_nil))) (pss_cons (ps_setLc (i := 4) (own := [("_law_place", 1)]) (g := gName 1) (tt := _) rfl sc__law_is_land.nd rfl rfl (sw_true rfl rfl rfl (by decide +kernel)) (pi_tup (pv 0)) (blkOk_by (own := [("_law_place", 1)]) (N := ["_law_value", "_law_place", "_law_one", "_law_other", "_law_others", "_law_x"]) (sc := defScope s__law_is_land) (by decide +kernel)) (fun _ _ _ _ _ => (pg_name (i := 1) sc__law_is_land.nd rfl (Or.inl rfl))) (fun _ _ _ _ _ => (pts_one (pt_cmpR (show OpR _ _ (rNotInU K) from op_notInU (G.room1 hr)) (pv 1) (pe_tup (pa_cons (pv 2) (pa_cons (pv 3) pa_nil))) (by with_unfolding_all rfl)))) (fun _ _ _ _ _ => (pv 1)))
      (pss_one (ps_if (PW.pt (pw_or (pt_cmpR (op_eqD hr.units) (pv 2) (pv 3) (nomark _)) (pw_or1 (pt_not (pt_val (pe_callB (cr_all rfl) (by rfl) T.n_all (by decide +kernel) (pa_cons (pe_lc (own := [("_law_place", 1)]) (g := gName 1) (tt := tYes) rfl sc__law_is_land.nd (pi_list (pv 4)) (blkOk_by (own := [("_law_place", 1)]) (N := ["_law_value", "_law_place", "_law_one", "_law_other", "_law_others", "_law_x"]) (sc := defScope s__law_is_land) (by decide +kernel)) (fun _ _ _ _ _ => (pg_name (i := 1) sc__law_is_land.nd rfl (Or.inl rfl))) (fun _ _ _ _ _ => pts_nil) (fun _ _ _ _ _ => (pe_cmpR op_gt (pe_fn G__law_height hq (hr.mono (by omega)) (by rfl) T.g__law_height T.k__law_height b__law_height .nil pass0 (pa_cons (pv 2) (pa_cons (pv 3) (pa_cons (pe_op (show OpR _ _ (rCatA K) from op_catA) (pv 1) (pe_tup (pa_cons pe_int pa_nil))) pa_nil)))) pe_int (nomark _)))) pa_nil))))))) (pss_one (ps_ret pe_bl)) pss_nil))))
      (pss_one (ps_ret (pe_cmpR op_eq (pe_lenU rfl hr.units (by rfl) T.n_len (by rfl) T.n_set (pv 0)) (pe_callB call_len_seq (by rfl) T.n_len (by decide +kernel) (pa_cons (pv 0) pa_nil)) (nomark _))))))), ?body⟩)
  case len => obtain ⟨v, d, rfl, _⟩ := h; rfl
  case body =>
    obtain ⟨v, d, rfl, hd, q⟩ := h
    have hsz := sizeLine_eq
    obtain ⟨t, ty, _, _, k3⟩ := da_cls (K := K) hd
    refine ⟨_, rfl, v, _, _, _, isT d, rfl, .ty _, ty, k3, isT d, rfl, ?_⟩
    cases ht : isT d with
    | false =>
      refine iteT (iteT ?_)
      have e : (landD d).isSome = false := by cases d <;> first | rfl | cases ht
      have z := q H (Same.refl _)
      rw [e] at z
      exact z
    | true =>
      obtain ⟨c, us, ds, rfl, rfl, hc, hda⟩ : ∃ p xs ds, v = .ref p ∧ d = .tuple ds ∧ H p = some (.tup xs) ∧ DaAll H xs ds := by
        cases hd with
        | tup e t => exact ⟨_, _, _, rfl, rfl, e, t⟩
        | _ => cases ht
      have hl := hda.length
      have bad : landD (.tuple ds) = none → ∀ H1, Same H H1 → Q (.bl false) H1 := fun z H1 S => by
        have z' := q H1 S
        rw [z] at z'
        exact z'
      refine iteF ⟨_, rfl, c, us, rfl, .inr (SqT.of hc), _, _, rfl, rfl, _, rfl, ?_⟩
      by_cases h3 : 3 ≤ us.length
      · refine ite2 (fun _ => ?_) (fun z => absurd (decide_eq_true (by omega)) z)
        refine ⟨_, _, rfl, rfl, _, rfl, ?_⟩
        by_cases h8 : us.length ≤ 8
        · refine ite2 (fun z => absurd z (by rw [decide_eq_true (by omega)]; exact Bool.false_ne_true)) (fun _ => ?_)
          refine ⟨_, rfl, c, rfl, ⟨_, SqT.of hc⟩, for_it walk_tup (fun i σ H' => (∃ s1 : Option V, σ = [some (.ref c), s1, none, none, none, none]) ∧ Same H H' ∧ ∀ j d, j < i → ds[j]? = some d → (corD d).isSome = true) ?start (fun i σ H' _ h => SqT.of (h.2.1 _ _ hc)) ?turn ?fin⟩
          case start => exact ⟨⟨_, rfl⟩, Same.refl _, fun j d h => by omega⟩
          case turn =>
            rintro i x σ H1' H1 hi ⟨⟨s1, rfl⟩, S1, gg⟩ ⟨rfl, hx⟩
            obtain ⟨e, he, hde0⟩ := daAll_at hda hx
            have hde := hde0.same S1
            obtain ⟨t', ty', _, _, k3'⟩ := da_cls (K := K) hde
            refine ⟨_, rfl, x, _, _, _, isT e, rfl, .ty _, ty', k3', isT e, rfl, ?_⟩
            cases ht' : isT e with
            | false => exact iteT (iteT (bad (cors_bad he (by rw [corD_not ht']; rfl)) _ S1))
            | true =>
              obtain ⟨p', ys, es, rfl, rfl, hp', hda'⟩ : ∃ p xs ds, x = .ref p ∧ e = .tuple ds ∧ H1 p = some (.tup xs) ∧ DaAll H1 xs ds := by
                cases hde with
                | tup e t => exact ⟨_, _, _, rfl, rfl, e, t⟩
                | _ => cases ht'
              have hl' := hda'.length
              refine iteF ⟨_, rfl, p', ys, rfl, .inr (SqT.of hp'), rfl, _, rfl, ?_⟩
              by_cases h2 : ys.length = 2
              · refine ite2 (fun z => absurd z (by rw [h2]; decide)) (fun _ => ?_)
                obtain ⟨v1, v2, rfl⟩ : ∃ v1 v2, ys = [v1, v2] := by
                  rcases ys with _ | ⟨a1, _ | ⟨a2, _ | ⟨a3, ys⟩⟩⟩ <;> simp at h2
                  exact ⟨_, _, rfl⟩
                obtain ⟨d1, d2, rfl⟩ : ∃ v1 v2, es = [v1, v2] := by
                  rcases es with _ | ⟨a1, _ | ⟨a2, _ | ⟨a3, es⟩⟩⟩ <;> simp at hl'
                  exact ⟨_, _, rfl⟩
                refine ⟨_, rfl, p', rfl, ⟨_, SqT.of hp'⟩, fun D nD => lc_valW walk_tup (fun i => .bl (okI (([d1, d2][i]?).getD .none))) nD (fun H' S => SqT.of (S _ _ hp')) (by show 2 < sizeLine; omega) ?he ?hd⟩
                case he =>
                  rintro k y H5 H6 Q' N hk S ⟨rfl, hy⟩ qy
                  obtain ⟨u, hu, hdu⟩ := daAll_at hda' hy
                  rw [hu] at qy
                  have qy : ∀ H3, Same H6 H3 → Q' (.bl (okI u)) H3 := qy
                  refine ⟨rfl, yesI ⟨_, rfl, _, rfl, y, u, -999, 999, rfl, hdu.same S, ?_⟩⟩
                  have z := qy _ (Same.refl _)
                  rw [← isI2] at z
                  exact z
                case hd =>
                  intro H5 S5 hD
                  refine ⟨D, (List.range 2).map fun i => okI (([d1, d2][i]?).getD .none), rfl, SqL.of hD, _, rfl, ?_⟩
                  have e : ((List.range 2).map fun i => okI (([d1, d2][i]?).getD .none)).all id = (corD (.tuple [d1, d2])).isSome := by
                    rw [corD_two]
                    show (okI d1 && (okI d2 && true)) = _
                    rw [Bool.and_true]
                  rw [e]
                  cases ok : (corD (.tuple [d1, d2])).isSome with
                  | false => exact iteT (bad (cors_bad he ok) _ (S1.trans S5))
                  | true =>
                    refine iteF ⟨⟨_, rfl⟩, S1.trans S5, fun j d hj hd => ?_⟩
                    rcases Nat.lt_or_ge j i with h | h
                    · exact gg j d h hd
                    · have : j = i := by omega
                      subst this
                      rw [he] at hd
                      cases hd
                      exact ok
              · refine ite2 (fun _ => iteT (bad (cors_bad he (by rw [corD_len (by omega)]; rfl)) _ S1)) (fun z => absurd ?_ z)
                rw [Bool.not_eq_true', decide_eq_false_iff_not]
                intro w
                injection w with w
                omega
          case fin =>
            rintro σ H1 ⟨⟨s1, rfl⟩, S1, gg⟩
            obtain ⟨ps, hcs⟩ : ∃ ps, corsD ds = some ps := by
              refine Option.isSome_iff_exists.mp ?_
              rw [corsD_some, List.all_eq_true]
              intro d hd
              obtain ⟨j, hj⟩ := List.mem_iff_getElem?.mp hd
              refine gg j d ?_ hj
              have := (List.getElem?_eq_some_iff.mp hj).1
              omega
            obtain ⟨hp0, hnr⟩ := corsD_pls hda hcs
            have hp1 : Pls H1 us ps := Paired.mapP hp0 fun _ _ e => e.same S1
            have hlp := hp0.length
            have hc1 := S1 _ _ hc
            refine ⟨_, rfl, c, us, ps, rfl, hc1, hp1, by omega, fun l ws H2 nl S2 hl2 hw => ⟨l, rfl, ⟨_, SqL.of hl2⟩, ?_⟩⟩
            have hwl := hw.length
            rw [eds_len] at hwl
            have S12 := S1.trans S2
            refine for_it walk_list (fun i σ H' => (∃ s1 s2 s3 s4 : Option V, σ = [some (.ref c), s1, s2, s3, s4, none]) ∧ Same H2 H' ∧ ∀ j e, j < i → (eds ps)[j]? = some e → e.1 ≠ e.2 ∧ ∀ x ∈ ps, x ≠ e.1 → x ≠ e.2 → 0 < tri e.1 e.2 x) ?start2 (fun i σ H' _ h => h.2.1.seq (SqL.of hl2)) ?turn2 ?fin2
            case start2 => exact ⟨⟨_, _, _, _, rfl⟩, Same.refl _, fun j e h => by omega⟩
            case turn2 =>
              rintro i x σ H3' H3 hi ⟨⟨s1', s2, s3, s4, rfl⟩, S3, gg⟩ ⟨rfl, hx⟩
              obtain ⟨e, he, t', q', r', rfl, f1, f2, f3⟩ := paired_at hw hx
              obtain ⟨m1, m2⟩ := eds_mem (List.mem_of_getElem? he)
              have n1 := (hnr _ m1).ib
              have n2 := (hnr _ m2).ib
              have f1 := S3 _ _ f1
              have f2 := S3 _ _ f2
              have f3 := S3 _ _ f3
              have S13 := S12.trans S3
              have hc3 := S13 _ _ hc
              have hp3 : Pls H3 us ps := Paired.mapP hp0 fun _ _ e => e.same S13
              have noL : ¬ (e.1 ≠ e.2 ∧ ∀ x ∈ ps, x ≠ e.1 → x ≠ e.2 → 0 < tri e.1 e.2 x) → landD (.tuple ds) = none := fun z => land_edge (by omega) hcs fun L => z (L.1 e (List.mem_of_getElem? he))
              refine ⟨t', _, rfl, SqT.of f1, rfl, _, _, rfl, _, _, rfl, rfl, ?_⟩
              refine ⟨_, rfl, c, rfl, ⟨_, SqT.of hc3⟩, fun D nD => lc_testW walk_tup (fun j => (ps[j]?).elim false fun x => !(decide (e.1 = x) || (decide (e.2 = x) || false))) (fun j => (us[j]?).getD .non) nD (fun H' S => SqT.of (S _ _ hc3)) (by omega) ?he2 ?hd2⟩
              case he2 =>
                rintro j y H5 H6 Q' N hj S ⟨rfl, hy⟩ qt qf
                obtain ⟨X, hX, hPX⟩ := paired_at hp3 hy
                rw [hX] at qt qf
                rw [hy] at qt
                have hPX := hPX.same S
                refine ⟨rfl, _, rfl, _, rfl, _, rfl, (by show 2 ≤ sizeLine; decide), fun o no => ?_⟩
                have So := same_new (o := .tup [.ref q', .ref r']) no
                refine ⟨plD X, [plD e.1, plD e.2], pl_dp (hPX.same So), .tup (SqT.of upd_same) (.cons (pl_dp ⟨q', rfl, So _ _ (S _ _ f2)⟩) (.cons (pl_dp ⟨r', rfl, So _ _ (S _ _ f3)⟩) .nil)), rfl, rfl, _, rfl, ?_⟩
                have ev : ([plD e.1, plD e.2].any fun z => PyData.eqv z (plD X)) = (decide (e.1 = X) || (decide (e.2 = X) || false)) := by
                  simp only [List.any_cons, List.any_nil, pl_eqv]
                rw [ev]
                refine ite2 (fun z => ⟨_, rfl, qt z _ So⟩) (fun z => qf (by rw [← Bool.not_eq_true]; exact z) _ So)
              case hd2 =>
                intro H5 S5 hD
                refine ⟨_, rfl, _, rfl, plD e.1, plD e.2, pl_dp ⟨q', rfl, S5 _ _ f2⟩, pl_dp ⟨r', rfl, S5 _ _ f3⟩, rfl, rfl, _, rfl, ?_⟩
                rw [pl_eqv]
                by_cases ee : e.1 = e.2
                · rw [decide_eq_true ee]
                  exact iteT (iteT (bad (noL fun z => z.1 ee) _ (S13.trans S5)))
                · rw [decide_eq_false ee]
                  refine iteF ?_
                  generalize hidx : (List.range us.length).filter (fun j => (ps[j]?).elim false fun x => !(decide (e.1 = x) || (decide (e.2 = x) || false))) = idx at hD
                  have lidx : idx.length ≤ 8 := by
                    rw [← hidx]
                    have := List.length_filter_le (fun j => (ps[j]?).elim false fun x => !(decide (e.1 = x) || (decide (e.2 = x) || false))) (List.range us.length)
                    rw [List.length_range] at this
                    omega
                  refine ⟨_, rfl, D, rfl, ⟨_, SqL.of hD⟩, fun D2 nD2 => lc_valW walk_list (fun k => .bl ((idx[k]?).elim false fun j => (ps[j]?).elim false fun x => decide (0 < tri e.1 e.2 x))) nD2 (fun H' S => S.seq (SqL.of hD)) (by rw [List.length_map]; omega) ?he3 ?hd3⟩
                  case he3 =>
                    rintro k y H6 H7 Q' N hk S ⟨rfl, hy⟩ qy
                    rw [List.getElem?_map] at hy
                    obtain ⟨j, hj, rfl⟩ := Option.map_eq_some_iff.mp hy
                    have hjr : j < us.length := by
                      have := List.mem_of_getElem? hj
                      rw [← hidx, List.mem_filter, List.mem_range] at this
                      exact this.1
                    obtain ⟨X, hX, hPX⟩ := paired_at hp3 (List.getElem?_eq_getElem hjr)
                    rw [hj] at qy
                    simp only [Option.elim_some, hX] at qy
                    have ey : (us[j]?).getD .non = us[j] := by rw [List.getElem?_eq_getElem hjr]; rfl
                    rw [ey]
                    obtain ⟨tx, etx, htx⟩ := hPX.same (S5.trans S)
                    have nX := (hnr X (List.mem_of_getElem? hX)).ib
                    rw [etx]
                    refine ⟨rfl, yesI ⟨_, rfl, _, rfl, _, rfl, (by show 1 ≤ sizeLine; decide), fun o3 n3 => ⟨tx, o3, _, _, rfl, rfl, SqT.of (same_new n3 _ _ htx), SqT.of upd_same, (by show 3 ≤ sizeLine; decide), fun z => (nomatch z), fun _ z => (nomatch z), fun _ _ o4 n4 => ?_⟩⟩⟩
                    have S7 := (same_new (o := .tup [.int 1]) n3).trans (same_new (o := .tup [.int X.1, .int X.2, .int 1]) n4)
                    refine ⟨_, _, _, e.1.1, e.1.2, e.2.1, e.2.2, X.1, X.2, 1, 10, rfl, ⟨q', rfl, S7 _ _ (S _ _ (S5 _ _ f2))⟩, ⟨r', rfl, S7 _ _ (S _ _ (S5 _ _ f3))⟩, ⟨o4, rfl, upd_same⟩, n1.1, n1.2, n2.1, n2.2, nX.1, nX.2, (by show (1 : Int).natAbs < 2 ^ 10; decide), by omega, _, _, rfl, rfl, ?_⟩
                    exact qy _ S7
                  case hd3 =>
                    intro H6 S6 hD2
                    refine ⟨D2, (List.range idx.length).map fun k => (idx[k]?).elim false fun j => (ps[j]?).elim false fun x => decide (0 < tri e.1 e.2 x), rfl, SqL.of (by rw [List.map_map]; rw [List.length_map] at hD2; exact hD2), _, rfl, ?_⟩
                    rw [range_all]
                    have all_iff : (idx.all fun j => (ps[j]?).elim false fun x => decide (0 < tri e.1 e.2 x)) = true ↔ ∀ x ∈ ps, x ≠ e.1 → x ≠ e.2 → 0 < tri e.1 e.2 x := by
                      rw [List.all_eq_true]
                      constructor
                      · intro h x hx a1 a2
                        obtain ⟨j, hj⟩ := List.mem_iff_getElem?.mp hx
                        have := h j (by
                          rw [← hidx, List.mem_filter, List.mem_range]
                          refine ⟨by have := (List.getElem?_eq_some_iff.mp hj).1; omega, ?_⟩
                          rw [hj]
                          simp [Ne.symm a1, Ne.symm a2])
                        rw [hj] at this
                        exact of_decide_eq_true this
                      · intro h j hj
                        rw [← hidx, List.mem_filter, List.mem_range] at hj
                        obtain ⟨h1, h2⟩ := hj
                        rw [List.getElem?_eq_getElem (show j < ps.length by omega)] at h2 ⊢
                        simp at h2
                        exact decide_eq_true (h _ (List.getElem_mem _) (Ne.symm h2.1) (Ne.symm h2.2))
                    cases hall : (idx.all fun j => (ps[j]?).elim false fun x => decide (0 < tri e.1 e.2 x)) with
                    | false => exact iteT (bad (noL fun z => by have := all_iff.mpr z.2; rw [hall] at this; cases this) _ ((S13.trans S5).trans S6))
                    | true =>
                      refine iteF ⟨⟨_, _, _, _, rfl⟩, (S3.trans S5).trans S6, fun j e' hj hj' => ?_⟩
                      rcases Nat.lt_or_ge j i with h | h
                      · exact gg j e' h hj'
                      · have : j = i := by omega
                        subst this
                        rw [he] at hj'
                        cases hj'
                        exact ⟨ee, all_iff.mp hall⟩
            case fin2 =>
              rintro σ H3 ⟨⟨s1', s2, s3, s4, rfl⟩, S3, gg⟩
              have S13 := S12.trans S3
              have hc3 := S13 _ _ hc
              obtain ⟨ks, eks, hks, htup⟩ := pls_ks hp0
              have hlk : us.length = ks.length := by rw [eks, List.length_map]
              refine ⟨_, rfl, c, ks, rfl, SqT.of (by rw [← eks]; exact hc3), fun p hp => SqT.of (S13 _ _ (htup p hp)), by omega, fun n hn => ?_⟩
              refine ⟨_, rfl, c, us, rfl, .inr (SqT.of hc3), rfl, ?_⟩
              have nd : (ks.map (·.2)).Nodup ↔ ps.Nodup := by
                rw [hks]
                constructor
                · intro h
                  exact (List.pairwise_map.mp h).imp fun {a b} h z => h (by rw [z])
                · intro h
                  refine List.pairwise_map.mpr (h.imp fun {a b} h z => h ?_)
                  simp only [List.cons.injEq, and_true] at z
                  exact Prod.ext z.1 z.2
              have z := q H3 S13
              have e : (landD (.tuple ds)).isSome = decide (V.int (n : Nat) = V.int (us.length : Nat)) := by
                by_cases c1 : n = ks.length
                · rw [decide_eq_true (by rw [c1, hlk])]
                  have L : LawB ps := ⟨fun e he => by
                    obtain ⟨j, hj⟩ := List.mem_iff_getElem?.mp he
                    refine gg j e ?_ hj
                    have := (List.getElem?_eq_some_iff.mp hj).1
                    rw [eds_len] at this
                    omega, nd.mp (hn.mp c1)⟩
                  rw [land_yes (by omega) (by omega) hcs ((goes_law (by omega)).mpr L)]
                  rfl
                · rw [decide_eq_false (fun w => c1 (by injection w with w; omega)), land_edge (by omega) hcs fun L => c1 (hn.mpr (nd.mpr L.2))]
                  rfl
              rw [e] at z
              exact z
        · refine ite2 (fun _ => ?_) (fun z => absurd (by rw [decide_eq_false (by omega)]; rfl) z)
          exact bad (land_no1 (by omega)) _ (Same.refl _)
      · refine ite2 (fun z => absurd (of_decide_eq_true z) (by omega)) (fun _ => ?_)
        exact ⟨_, rfl, iteT (bad (land_no1 (by omega)) _ (Same.refl _))⟩
end
end My

namespace My
open G
theorem sign_mul {a b c d : Int} (hb : 0 < b) (hd : 0 < d) (e : a * b = c * d) : (0 ≤ a ↔ 0 ≤ c) := by
  constructor
  · intro h
    apply Classical.byContradiction
    intro n
    have h1 := Int.mul_nonneg h (show 0 ≤ b by omega)
    have h2 := Int.mul_pos (show 0 < -c by omega) hd
    have : -c * d = -(c * d) := by grind
    omega
  · intro h
    apply Classical.byContradiction
    intro n
    have h1 := Int.mul_nonneg h (show 0 ≤ d by omega)
    have h2 := Int.mul_pos (show 0 < -a by omega) hb
    have : -a * b = -(a * b) := by grind
    omega
theorem div_cross {n u : Int} (h : u ≠ 0) : (Rat.divInt n u).num * u = n * ((Rat.divInt n u).den : Int) := by
  have := red_cross (n := n) h
  rw [(rq h).1, (rq h).2] at this
  exact this
theorem in_with {ps : List (Int × Int)} {x y d : Int} (hd : 0 < d) : inB ps (Rat.divInt x d) (Rat.divInt y d) = (eds ps).all fun e => decide (0 ≤ hgt e.1.1 e.1.2 e.2.1 e.2.2 x y d) := by
  have h1 := div_cross (n := x) (u := d) (by omega)
  have h2 := div_cross (n := y) (u := d) (by omega)
  have p1 : (0 : Int) < ((Rat.divInt x d).den : Int) := Int.natCast_pos.mpr (Rat.den_pos _)
  have p2 : (0 : Int) < ((Rat.divInt y d).den : Int) := Int.natCast_pos.mpr (Rat.den_pos _)
  unfold inB
  generalize (Rat.divInt x d).num = m at *
  generalize (Rat.divInt y d).num = n at *
  generalize ((Rat.divInt x d).den : Int) = u at *
  generalize ((Rat.divInt y d).den : Int) = v at *
  congr 1
  funext e
  refine decide_eq_decide.mpr (sign_mul hd (Int.mul_pos p1 p2) ?_)
  unfold lineV bdE hgt
  simp only
  grind
theorem div_ib {k : Nat} {n u : Int} (h : u ≠ 0) (hn : Ib k n) (hu : Ib k u) : Ib k (Rat.divInt n u).num ∧ Ib k ((Rat.divInt n u).den : Int) := by
  rw [← (rq h).1, ← (rq h).2]
  have e1 := num_mul (n := n) h
  have e2 := und_mul (n := n) h
  have b0 := byOf_ne (n := n) h
  unfold Ib at *
  constructor
  · refine Nat.lt_of_le_of_lt ?_ hn
    conv => rhs; rw [← e1]
    rw [Int.natAbs_mul]
    exact Nat.le_mul_of_pos_left _ (by omega)
  · refine Nat.lt_of_le_of_lt ?_ hu
    conv => rhs; rw [← e2]
    rw [Int.natAbs_mul]
    exact Nat.le_mul_of_pos_left _ (by omega)
end My

namespace My
open PySem PySem.Spec PyProof.Rows L2 G
local macro_rules | `(tactic| walk_at "gd") => `(tactic| exact gdB_ok (by decide +kernel))
local macro_rules | `(tactic| walk_at "ev") => `(tactic| repeat (first
  | exact eva_nil
  | apply eva_cons
  | exact evg_int (gdB_ok (by decide +kernel))
  | exact evg_str (gdB_ok (by decide +kernel))
  | exact evg_bl (gdB_ok (by decide +kernel))
  | exact evg_non (gdB_ok (by decide +kernel))
  | exact evg_neg (gdB_ok (by decide +kernel))
  | exact evg_pow ⟨by decide, by decide, by decide +kernel⟩ (gdB_ok (by decide +kernel))
  | exact evg_dnew (by assumption) (gdB_ok (by decide +kernel))
  | (apply evg_tup (G' := Gd 8 3); (case h => walk_at "ev"); (case t => assumption); (case hm => decide); (case g => exact fun ds l h => gd_tup h (Nat.le_of_eq l) (by decide)))
  | (apply evg_tup (G' := Gd 3 2); (case h => walk_at "ev"); (case t => assumption); (case hm => decide); (case g => exact fun ds l h => gd_tup h (Nat.le_of_eq l) (by decide)))
  | (apply evg_lst (G' := Gd 8 3); (case h => walk_at "ev"); (case t => assumption); (case hm => decide); (case g => exact fun ds l h => gd_lst h (Nat.le_of_eq l) (by decide)))
  | exact evg_dict1 (G' := Gd 8 3) (by assumption) (fun q H1 S => evg_int (gdB_ok (by decide +kernel))) (fun d g => gd_dict1 g (by decide +kernel) (by decide))))

abbrev s__law_bent : Stmt := topS 46
theorem sc__law_bent : FnScope ["_law_pot_here", "_law_value", "_law_at", "_law_some_here"] ["_law_pot_here", "_law_value"] (defScope s__law_bent) := ⟨rfl, rfl, rfl, by decide +kernel, rfl, by decide +kernel, by decide +kernel⟩

/-! ### values that are bent: tuples of small ints -/
def Leaf (d : PyData) : Prop := ∃ i : Int, d = .int i ∧ -999 ≤ i ∧ i ≤ 999
def Bt : Nat → PyData → Prop
  | 0, d => Leaf d
  | k + 1, d => Leaf d ∨ ∃ ds, d = .tuple ds ∧ 1 ≤ ds.length ∧ ds.length ≤ 8 ∧ ∀ x ∈ ds, Bt k x
def wB : Nat → Nat
  | 0 => 12
  | k + 1 => 8 * (wB k + 1)
def rB : Nat → Nat
  | 0 => 100
  | k + 1 => 17 * (rB k + wB k + 1)
def spBent : Nat → Sp
  | 0 => fun _ _ _ _ => False
  | k + 1 => fun vs H Q _ => ∃ (N : Addr → Prop) (p : Addr) (v : V) (d : PyData) (n : Nat), vs = [.ref p, v] ∧ PotAt H p n ∧ N p ∧ Tr N H ∧ k ≤ 50 ∧ n + 2 * k + 10 ≤ 100000 ∧ Da (mask N H) v d ∧ Bt k d ∧
    ∀ u m H', Is N H' (Gd (rB k) (4 + k)) u → Go p m H H' → m ≤ n + 2 * k + 2 → Q u H'
theorem gd_int12 {i : Int} (h : i.natAbs < 10 ^ 3 + 2) : Gd 12 0 (.int i) := by
  have h12 : i.natAbs < 10 ^ 12 := by omega
  have lg := PySem.Flt.log2_lt_of (n := i.natAbs) (k := 10) (by decide) (by omega)
  refine ⟨decide_eq_true ?_, decide_eq_true (by omega), Nat.zero_le _, ?_⟩
  · show (Str.ofString (toString i)).length ≤ 13
    rw [int_L, SX.S_len]
    have := intL_le (k := 12) (by decide) h12
    omega
  · show (if i == 0 then 0 else i.natAbs.log2 + 1) ≤ 12
    split <;> omega
theorem rB_ge : ∀ k, 100 ≤ rB k
  | 0 => Nat.le_refl _
  | k + 1 => by have := rB_ge k; simp only [rB]; omega
theorem bt_cases : ∀ {k : Nat} {d : PyData}, Bt k d → Leaf d ∨ ∃ j ds, k = j + 1 ∧ d = .tuple ds ∧ 1 ≤ ds.length ∧ ds.length ≤ 8 ∧ ∀ x ∈ ds, Bt j x
  | 0, _, h => .inl h
  | k + 1, _, h => h.elim .inl fun ⟨ds, e, r⟩ => .inr ⟨k, ds, rfl, e, r⟩
theorem small_str {i : Int} (h0 : -999 ≤ i) (h1 : i ≤ 999) : Gd 14 0 (.str (toString i)) := by
  obtain ⟨n, hn, rfl⟩ : ∃ n : Nat, n < 1999 ∧ i = (n : Int) - 999 := ⟨(i + 999).toNat, by omega, by omega⟩
  have t2 : ∀ n : Fin 1999, gdB 14 0 (.str (toString ((n.val : Int) - 999))) = true := by decide +kernel
  exact gdB_ok (t2 ⟨n, hn⟩)
theorem small_log {i : Int} (h0 : -999 ≤ i) (h1 : i ≤ 999) : i.natAbs.log2 < 1920 := by
  have := PySem.Flt.log2_lt_of (n := i.natAbs) (k := 10) (by decide) (by omega)
  omega
theorem gd_bool {n k : Nat} (b : Bool) : Gd n k (.bool b) := ⟨rfl, rfl, Nat.zero_le _, Nat.zero_le _⟩
theorem gd_none {n k : Nat} : Gd n k .none := ⟨rfl, rfl, Nat.zero_le _, Nat.zero_le _⟩
theorem leaf_gd {d : PyData} (h : Leaf d) : Gd 12 0 d := by
  obtain ⟨i, rfl, h0, h1⟩ := h
  exact gd_int12 (by omega)
theorem wB_ge : ∀ k, 12 ≤ wB k
  | 0 => Nat.le_refl _
  | k + 1 => by have := wB_ge k; simp only [wB]; omega
theorem bt_gd : ∀ {k : Nat} {d : PyData}, Bt k d → Gd (wB k) k d
  | 0, _, h => leaf_gd h
  | k + 1, _, h => by
    rcases h with h | ⟨ds, rfl, _, l, hx⟩
    · exact (leaf_gd h).mono (wB_ge _) (Nat.zero_le _)
    · exact gd_tup (fun d hd => bt_gd (hx d hd)) l (by simp only [wB]; omega)
theorem leaf_lay {d : PyData} (h : Leaf d) : d.canLay0 = true := by
  obtain ⟨i, rfl, _⟩ := h
  simp [PyData.canLay0]
theorem bt_lay : ∀ {k : Nat} {d : PyData}, Bt k d → d.canLay0 = true
  | 0, _, h => leaf_lay h
  | k + 1, _, h => by
    rcases h with h | ⟨ds, rfl, _, _, hx⟩
    · exact leaf_lay h
    · have all : ∀ {l : List PyData}, (∀ x ∈ l, Bt k x) → PyData.canLayAll0 l = true := by
        intro l
        induction l with
        | nil => intro _; simp [PyData.canLayAll0]
        | cons x r ih => intro h; simp only [PyData.canLayAll0, Bool.and_eq_true]; exact ⟨bt_lay (h x (List.mem_cons_self ..)), ih fun y hy => h y (List.mem_cons_of_mem _ hy)⟩
      simp only [PyData.canLay0]
      exact all hx
theorem bt_shaped {k : Nat} {d : PyData} (h : Bt k d) (hk : k ≤ 60) : SeqAt.shaped d = true := by
  show (d.canLay0 && decide (d.depth ≤ 64)) = true
  rw [bt_lay h, Bool.true_and]
  exact decide_eq_true (by have := (bt_gd h).depth; omega)
theorem ne_nil {ds : List PyData} (h : 1 ≤ ds.length) : PyData.eqv (.tuple ds) (.tuple []) = false := by
  cases ds with
  | nil => exact absurd h (by decide)
  | cons d r => simp only [PyData.eqv, PyData.eqvAll]
theorem Go.isT {p : Addr} {n m : Nat} {H H' : Hp} {N : Addr → Prop} {G : PyData → Prop} {v : V} (g : Go p n H H') (hp : N p) (x : IsT N H G m v) : IsT N H' G m v := by
  obtain ⟨a, xs, rfl, na, e, l, h⟩ := x
  exact ⟨a, xs, rfl, na, g.at e (fun z => na (by rw [z]; exact hp)), l, fun y hy => g.is hp (h y hy)⟩
theorem of_done {N : Addr → Prop} {p l : Addr} {n m : Nat} {xs : List V} {H H1 : Hp} {G : PyData → Prop} {Q : VK} (pot : PotAt H p n) (np : N p) (S1 : Same H H1) (nl : H l = none) (hl : H1 l = some (.lst xs)) (ll : xs.length = m) (hm : 1 ≤ m ∧ m ≤ 1000) (hn : n ≤ 100000)
    (hx : ∀ x ∈ xs, Is N H1 G x) (q : ∀ x H2, Is N H2 G x → Go p (n + 1) H H2 → Q x H2) : spOf [.ref p, .ref l] H1 Q E0 :=
  ⟨p, l, n, xs, rfl, fun e => pot.has (by rw [← e]; exact nl), pot.same S1, hn, hl, (fun e => by rw [e] at ll; have : (0 : Nat) = m := ll; omega), by omega, fun x H2 hm2 g => q x H2 (g.is np (hx x hm2)) (Go.of S1 g)⟩
theorem trGo {N : Addr → Prop} {p : Addr} {n : Nat} {H H' : Hp} (t : Tr N H) (g : Go p n H H') : Tr N H' := fun b h => by
  by_cases e : b = p
  · rw [e]; exact g.pot.has
  · cases z : H b with
    | none => exact absurd z (t b h)
    | some o => rw [g.at z e]; simp
section
variable {P : Program} {w : World} {K : PySem.W.Frag} {mg : Str → Option Value} {base : Heap} {a : Ad}
theorem ok_bent {k : Nat} {fd : FuncData} (F : Fun K "_law_bent" "_law_bent" s__law_bent a._law_bent fd) (T : Txt K mg a)
    {fd_take : FuncData} (G__law_take : Fn P w K mg base CX0 1 a._law_take fd_take ["_law_pot_here", "_law_upto"] spTake) (b__law_take : Binds K fd_take ["_law_pot_here", "_law_upto"] [])
    {fd_of : FuncData} (G__law_of : Fn P w K mg base CX0 2 a._law_of fd_of ["_law_pot_here", "_law_some_here"] spOf) (b__law_of : Binds K fd_of ["_law_pot_here", "_law_some_here"] [])
    {fd_odd : FuncData} (G__law_odd : Fn P w K mg base CX0 3 a._law_odd fd_odd ["_law_pot_here"] spOdd0) (b__law_odd : Binds K fd_odd ["_law_pot_here"] [])
    (G__law_bent : Fn P w K mg base CX0 (3 + k) a._law_bent fd ["_law_pot_here", "_law_value"] (spBent k)) (b__law_bent : Binds K fd ["_law_pot_here", "_law_value"] []) :
    Fn P w K mg base CX0 (3 + k + 1) a._law_bent fd ["_law_pot_here", "_law_value"] (spBent (k + 1)) := by
  refine ok F sc__law_bent (fun vs H Q E h => ?len) (fun cdv A outer s H vs Q E hq hr h => ⟨_,
      (pss_cons (ps_if (PW.pt (pw_and (pt_val (pe_callB call_isi (by rfl) T.n_isinstance (by decide +kernel) (pa_cons (pv 1) (pa_cons (pe_bltn (v := .ty "tuple") (u := .type "tuple") (by rfl) T.n_tuple (by decide +kernel) rfl) pa_nil)))) (pw_and (pt_cmpR (op_neD hr.units) (pv 1) (pe_tup pa_nil) (nomark _)) (pw_and1 (pt_cmpR op_gt (pe_fn G__law_take hq (hr.mono (by omega)) (by rfl) T.g__law_take T.k__law_take b__law_take .nil pass0 (pa_cons (pv 0) (pa_cons pe_int pa_nil))) pe_int (nomark _)))))) (pss_cons (ps_set (i := 2) sc__law_bent.nd rfl (Or.inl rfl) (pe_fn G__law_take hq (hr.mono (by omega)) (by rfl) T.g__law_take T.k__law_take b__law_take .nil pass0 (pa_cons (pv 0) (pa_cons (pe_callB call_len_seq (by rfl) T.n_len (by decide +kernel) (pa_cons (pv 1) pa_nil)) pa_nil))))
      (pss_one (ps_ret (pe_op op_catA (pe_op op_catA (pe_slice sl_tupA (pv 1) po_none (po_some (pv 2))) (pe_tup (pa_cons (pe_fn G__law_bent hq (hr.mono (by omega)) (by rfl) T.g__law_bent T.k__law_bent b__law_bent .nil pass0 (pa_cons (pv 0) (pa_cons (pe_ix ix_tup (pv 1) (pv 2) (fun _ _ => rfl)) pa_nil))) pa_nil))) (pe_slice sl_tupA (pv 1) (po_some (pe_op op_add (pv 2) pe_int)) po_none))))) pss_nil)
      (pss_cons (ps_if (pt_val (pe_callB call_isi (by rfl) T.n_isinstance (by decide +kernel) (pa_cons (pv 1) (pa_cons (pe_bltn (v := .ty "tuple") (u := .type "tuple") (by rfl) T.n_tuple (by decide +kernel) rfl) pa_nil)))) (pss_cons (ps_set (i := 3) sc__law_bent.nd rfl (Or.inl rfl) (pe_lstS (pa_cons (pe_callTy call_listT (by rfl) T.n_list (by decide +kernel) (pa_cons (pv 1) pa_nil)) (pa_cons (pe_slice sl_tupA (pv 1) (po_some pe_int) po_none) (pa_cons (pe_slice sl_tupA (pv 1) po_none (po_some (pe_un un_neg pe_int))) (pa_cons (pe_op op_catA (pv 1) (pe_slice sl_tupA (pv 1) (po_some (pe_un un_neg pe_int)) po_none)) (pa_cons (pe_revT (pv 1)) (pa_cons (pe_tup pa_nil) (pa_cons (pe_op op_catA (pv 1) (pe_tup (pa_cons pe_int pa_nil))) (pa_cons pe_non pa_nil))))))))))
      (pss_one (ps_ret (pe_fn G__law_of hq (hr.mono (by omega)) (by rfl) T.g__law_of T.k__law_of b__law_of .nil pass0 (pa_cons (pv 0) (pa_cons (pv 3) pa_nil)))))) pss_nil)
      (pss_cons (ps_if (pt_val (pe_callB call_isi (by rfl) T.n_isinstance (by decide +kernel) (pa_cons (pv 1) (pa_cons (pe_bltn (v := .ty "str") (u := .type "str") (by rfl) T.n_str (by decide +kernel) rfl) pa_nil)))) (pss_one (ps_ret (pe_fn G__law_of hq (hr.mono (by omega)) (by rfl) T.g__law_of T.k__law_of b__law_of .nil pass0 (pa_cons (pv 0) (pa_cons (pe_lstS (pa_cons (pe_op op_add_str (pv 1) pe_str) (pa_cons (pe_slice sl_str (pv 1) po_none (po_some (pe_un un_neg pe_int))) (pa_cons (pe_upper (pv 1)) (pa_cons (pe_op op_add_str (pv 1) pe_str) (pa_cons (pe_lstS (pa_cons (pv 1) pa_nil)) (pa_cons pe_str (pa_cons pe_str (pa_cons pe_non (pa_cons pe_int pa_nil)))))))))) pa_nil))))) pss_nil)
      (pss_cons (ps_if (pt_val (pe_callB call_isi (by rfl) T.n_isinstance (by decide +kernel) (pa_cons (pv 1) (pa_cons (pe_bltn (v := .ty "bool") (u := .type "bool") (by rfl) T.n_bool (by decide +kernel) rfl) pa_nil)))) (pss_one (ps_ret (pe_fn G__law_of hq (hr.mono (by omega)) (by rfl) T.g__law_of T.k__law_of b__law_of .nil pass0 (pa_cons (pv 0) (pa_cons (pe_lstS (pa_cons (pe_not (pv 1)) (pa_cons (pe_callTy call_int1 (by rfl) T.n_int (by decide +kernel) (pa_cons (pv 1) pa_nil)) (pa_cons pe_non pa_nil)))) pa_nil))))) pss_nil)
      (pss_cons (ps_if (pt_val (pe_callB call_isi (by rfl) T.n_isinstance (by decide +kernel) (pa_cons (pv 1) (pa_cons (pe_bltn (v := .ty "int") (u := .type "int") (by rfl) T.n_int (by decide +kernel) rfl) pa_nil)))) (pss_one (ps_ret (pe_fn G__law_of hq (hr.mono (by omega)) (by rfl) T.g__law_of T.k__law_of b__law_of .nil pass0 (pa_cons (pv 0) (pa_cons (pe_lstS (pa_cons (pe_op op_add (pv 1) pe_int) (pa_cons (pe_op op_sub (pv 1) pe_int) (pa_cons (pe_cmpR op_eq (pv 1) pe_int (nomark _)) (pa_cons (pe_callTy call_str_int (by rfl) T.n_str (by decide +kernel) (pa_cons (pv 1) pa_nil)) (pa_cons (pe_un un_neg pe_int) (pa_cons pe_int (pa_cons pe_int (pa_cons (pe_un un_neg (pv 1)) (pa_cons pe_non (pa_cons (pe_tup (pa_cons (pv 1) pa_nil)) pa_nil))))))))))) pa_nil))))) pss_nil)
      (pss_one (ps_ret (pe_fn G__law_odd hq (hr.mono (by omega)) (by rfl) T.g__law_odd T.k__law_odd b__law_odd .nil pass0 (pa_cons (pv 0) pa_nil))))))))), ?body⟩)
  case len => obtain ⟨N, p, v, d, n, rfl, _⟩ := h; rfl
  case body =>
    obtain ⟨N, p, v, d, n, rfl, pot, np, t, hk50, hn, hd, hb, q⟩ := h
    rcases bt_cases hb with leaf | ⟨j, ds, rfl, rfl, l1, l3, hx⟩
    · obtain ⟨i, rfl, i0, i1⟩ := leaf
      · -- an int
        cases hd
        refine ⟨_, rfl, _, _, _, _, false, rfl, .ty _, .base (.int _), kit_ty (by decide +kernel), _, rfl, iteF (iteF ?_)⟩
        refine ⟨_, rfl, _, _, _, _, false, rfl, .ty _, .base (.int _), kit_ty (by decide +kernel), _, rfl, iteF ?_⟩
        refine ⟨_, rfl, _, _, _, _, false, rfl, .ty _, .base (.int _), kit_ty (by decide +kernel), _, rfl, iteF ?_⟩
        refine ⟨_, rfl, _, _, _, _, false, rfl, .ty _, .base (.int _), kit_ty (by decide +kernel), _, rfl, iteF ?_⟩
        refine ⟨_, rfl, _, _, _, _, true, rfl, .ty _, .base (.int _), kit_ty (by decide +kernel), _, rfl, iteT ?_⟩
        have sm : ∀ {j : Int}, -1001 ≤ j → j ≤ 1001 → Gd 100 4 (.int j) := fun h0 h1 => (gd_int12 (by omega)).mono (by decide) (by decide)
        refine ⟨_, rfl, eva_list (G := Gd 100 4) (m := 10) t ?ev (by decide) fun l xs H1 S1 nl hl sl ll hx => ?_⟩
        case ev =>
          apply eva_cons (evg_to (fun H1 Q q => ⟨_, rfl, _, _, rfl, rfl, q⟩) fun _ => is_int (sm (by omega) (by omega)))
          apply eva_cons (evg_to (fun H1 Q q => ⟨_, rfl, _, _, rfl, rfl, q⟩) fun _ => is_int (sm (by omega) (by omega)))
          apply eva_cons (evg_to (fun H1 Q q => ⟨_, rfl, rfl, q⟩) fun _ => is_bl (gd_bool _))
          apply eva_cons (evg_to (fun H1 Q q => ⟨_, rfl, _, rfl, small_log i0 i1, q⟩) fun _ => is_str ((small_str (i := i) (by omega) (by omega)).mono (by decide) (by decide)))
          apply eva_cons
          · walk_at "ev"
          apply eva_cons
          · walk_at "ev"
          apply eva_cons
          · walk_at "ev"
          apply eva_cons (evg_to (fun H1 Q q => ⟨_, rfl, _, rfl, q⟩) fun _ => is_int (sm (by omega) (by omega)))
          apply eva_cons
          · walk_at "ev"
          apply eva_cons
          · apply evg_tup (G' := Gd 12 0) (m := 1) t (eva_cons (evg_var rfl (is_int (gd_int12 (by omega)))) eva_nil) (by decide) (fun ds l h => (gd_tup (N := 100) h (Nat.le_of_eq l) (by decide)).mono (Nat.le_refl _) (by decide))
          exact eva_nil
        exact of_done pot np S1 nl hl ll (by decide) (by omega) hx fun x H2 i g => q x (n + 1) H2 (i.imp fun d g => g.mono (rB_ge k) (by omega)) g (by omega)
    · -- a tuple
      obtain ⟨tp, xs, rfl, nNt, htp, lxs, hxs⟩ : ∃ tp xs, v = .ref tp ∧ ¬ N tp ∧ H tp = some (.tup xs) ∧ xs.length = ds.length ∧ ∀ x ∈ xs, Is N H (Bt j) x := by
        cases hd with
        | tup e al => exact ⟨_, _, rfl, (mask_some e).1, (mask_some e).2, al.length, is_of_daAll al hx⟩
      have ntp : tp ≠ p := fun e => nNt (by rw [e]; exact np)
      have hv : IsT N H (Bt j) 8 (.ref tp) := ⟨tp, xs, rfl, nNt, htp, by omega, hxs⟩
      refine ⟨_, rfl, _, _, _, _, true, rfl, .ty _, .base (.tup htp), kit_ty (by decide +kernel), _, rfl, iteT ?_⟩
      refine ⟨_, rfl, (by show 0 ≤ sizeLine; decide), fun p1 h1 => ?_⟩
      have S1 : Same H (upd H p1 (.tup [])) := same_new h1
      refine ⟨.tuple ds, .tuple [], ((hd.same (mask_le N H)).same S1).dp (bt_lay hb), .tup (SqT.of upd_same) .nil, bt_shaped hb (by omega), by decide +kernel, _, rfl, ?_⟩
      rw [ne_nil l1]
      refine iteT ?_
      refine ⟨_, rfl, p, _, n, rfl, pot.same S1, by omega, by decide, by decide, fun d1 H2 d0 d6 g2 => ⟨_, _, rfl, rfl, _, rfl, ite2 (fun c => ?_) (fun c => ?_)⟩⟩
      · have g2 : Go p (n + 1) H H2 := Go.of S1 g2
        have hv2 := Go.isT g2 np hv
        have htp2 := g2.at htp ntp
        refine ⟨_, rfl, _, rfl, _, _, rfl, .inr (SqT.of htp2), p, _, n + 1, rfl, g2.pot, by omega, by omega, by omega, fun at_ H3 a0 a1 g3 => ?_⟩
        have hv3 := Go.isT g3 np hv2
        have htp3 := g3.at htp2 ntp
        have t3 : Tr N H3 := trGo (trGo t g2) g3
        refine s_ret (t_op (t_op (evt_sl t3 (evt_var rfl hv3) evo_none (evo_var rfl) H3 (Same.refl _) _ fun u1 H4 S4 is4 => ?_)))
        have lx : at_.toNat < xs.length := by omega
        have g4 : Go p (n + 2) H H3 := g2.trans g3
        -- v[at]
        obtain ⟨dj, hdj, bj⟩ : ∃ d, Da (mask N H4) xs[at_.toNat] d ∧ Bt j d := by
          obtain ⟨a', xs', e', na', ht', _, hx'⟩ := hv3.same S4
          obtain rfl := V.ref.inj e'
          have e2 := (S4 _ _ htp3).symm.trans ht'
          obtain rfl : xs = xs' := by injection e2 with e2; injection e2
          obtain ⟨d, y, z⟩ := hx' _ (List.getElem_mem lx)
          exact ⟨d, y, z⟩
        refine ⟨_, rfl, _, rfl, _, rfl, _, _, _, _, rfl, rfl, SqT.of (S4 _ _ htp3), at_of (j := at_.toNat) (by omega) (List.getElem?_eq_getElem lx), ?_⟩
        refine ⟨N, p, _, dj, n + 2, rfl, g4.pot.same S4, np, t3.same S4, by omega, by omega, hdj, bj, fun u2 m2 H5 is5 g5 hm2 => ?_⟩
        refine ⟨(by show 1 ≤ sizeLine; decide), fun t2 h2 => ?_⟩
        have is4' := (Go.isT g5 np is4).same (same_new (o := .tup [u2]) h2)
        have hv5 := (Go.isT g5 np (hv3.same S4)).same (same_new (o := .tup [u2]) h2)
        have u25 := is5.same (same_new (o := .tup [u2]) h2)
        have t5 : Tr N (upd H5 t2 (.tup [u2])) := (trGo (t3.same S4) g5).same (same_new h2)
        have nt2 : ¬ N t2 := (trGo (t3.same S4) g5).new h2
        obtain ⟨a1, ys, e1, na1, ha1, ly, hys⟩ := is4'
        subst e1
        refine catA_any ha1 upd_same (by show ys.length + 1 ≤ 100000; omega) fun c6 H6 S6 hc6 w6 => ?_
        refine evt_sl (t5.same S6) (evt_var rfl (hv5.same S6)) (evo_add rfl) evo_none H6 (Same.refl _) _ fun u3 H7 S7 ⟨a3, zs, e3, na3, ha3, lz, hzs⟩ => ?_
        subst e3
        refine catA_any (S7 _ _ hc6) ha3 (by show (ys ++ [u2]).length + zs.length ≤ 100000; rw [List.length_append]; show ys.length + 1 + zs.length ≤ 100000; omega) fun c8 H8 S8 hc8 w8 => ?_
        have nc6 : ¬ N c6 := by
          rcases w6 with z | z | z
          · rw [z]; exact na1
          · rw [z]; exact nt2
          · exact t5.new z
        have S58 : Same (upd H5 t2 (.tup [u2])) H8 := (S6.trans S7).trans S8
        have nc8 : ¬ N c8 := by
          rcases w8 with z | z | z
          · rw [z]; exact nc6
          · rw [z]; exact na3
          · exact ((t5.same S6).same S7).new z
        refine q _ m2 H8 (is_tup (G' := Gd (rB j + wB j) (4 + j)) nc8 hc8 ?_ fun ds' e' hd' => gd_tup hd' (m := 17) ?_ ?_) ⟨?_, ((g5.pot.same (same_new h2)).same S58)⟩ (by omega)
        · intro x hm
          have up : ∀ d, Bt j d → Gd (rB j + wB j) (4 + j) d := fun d b => (bt_gd b).mono (by omega) (by omega)
          rcases List.mem_append.mp hm with z | z
          · rcases List.mem_append.mp z with z | z
            · exact ((hys x z).imp up).same S58
            · obtain rfl : x = u2 := by simpa using z
              exact (u25.imp fun d g => g.mono (by omega) (by omega)).same S58
          · exact ((hzs x z).imp up).same S8
        · rw [e', List.length_append, List.length_append]
          show ys.length + 1 + zs.length ≤ 17
          omega
        · simp only [rB]; omega
        · exact ((g4.keep.trans (mask_mono S4)).trans g5.keep).trans (mask_mono ((same_new h2).trans S58))
      · -- the whole bent
        have g2 : Go p (n + 1) H H2 := Go.of S1 g2
        have hv2 := Go.isT g2 np hv
        have htp2 := g2.at htp ntp
        have t2 : Tr N H2 := trGo t g2
        have w2 : 2 ≤ wB j := Nat.le_trans (by decide) (wB_ge j)
        have hvg : IsT N H2 (Gd (wB j) j) 8 (.ref tp) := by
          obtain ⟨a', xs', e', na', ht', l', hx'⟩ := hv2
          exact ⟨a', xs', e', na', ht', l', fun x hm => (hx' x hm).imp fun d b => bt_gd b⟩
        have big : 17 * (wB j + 1) ≤ rB (j + 1) := by simp only [rB]; omega
        have gt : ∀ m, m ≤ 17 → ∀ ds : List PyData, ds.length ≤ m → (∀ d ∈ ds, Gd (wB j) j d) → Gd (rB (j + 1)) (4 + (j + 1)) (.tuple ds) := fun m hm ds l h =>
          (gd_tup h l (Nat.mul_le_mul_right _ hm)).mono big (by omega)
        have gl : ∀ m, m ≤ 17 → ∀ ds : List PyData, ds.length ≤ m → (∀ d ∈ ds, Gd (wB j) j d) → Gd (rB (j + 1)) (4 + (j + 1)) (.list ds) := fun m hm ds l h =>
          (gd_lst h l (Nat.mul_le_mul_right _ hm)).mono big (by omega)
        refine ⟨_, rfl, _, _, _, _, true, rfl, .ty _, .base (.tup htp2), kit_ty (by decide +kernel), _, rfl, iteT ?_⟩
        refine s_set (eva_list (G := Gd (rB (j + 1)) (4 + (j + 1))) (m := 8) t2 ?ev (by decide) fun l zs H3 S3 nl hl sl ll hx3 => ?_)
        case ev =>
          apply eva_cons (evg_listT t2 (evt_var rfl hvg) (gl 8 (by decide)))
          apply eva_cons ((evt_sl t2 (evt_var rfl hvg) evo_int evo_none).g (gt 8 (by decide)))
          apply eva_cons ((evt_sl t2 (evt_var rfl hvg) evo_none evo_neg).g (gt 8 (by decide)))
          apply eva_cons ((evt_cat t2 (evt_var rfl hvg) (evt_sl t2 (evt_var rfl hvg) evo_neg evo_none) (by decide)).g (gt 16 (by decide)))
          apply eva_cons ((evt_rev t2 (evt_var rfl hvg)).g (gt 8 (by decide)))
          apply eva_cons ((evt_tup (G := Gd (wB j) j) t2 eva_nil (by decide)).g (gt 0 (by decide)))
          apply eva_cons ((evt_cat t2 (evt_var rfl hvg) (evt_tup t2 (eva_cons (evg_int ((gdB_ok (n := 0) (k := 0) (by decide +kernel)).mono (Nat.zero_le _) (Nat.zero_le _))) eva_nil) (by decide)) (by decide)).g (gt 9 (by decide)))
          exact eva_cons (evg_non gd_none) eva_nil
        refine ⟨_, rfl, _, rfl, ?_⟩
        exact of_done g2.pot np S3 nl hl ll (by decide) (by omega) hx3 fun x H4 i g => q x (n + 2) H4 i (g2.trans g) (by omega)
end
end My

namespace My
open PySem PySem.Spec PyProof.Rows L2 G LamX NdefX
abbrev s__law_told : Stmt := topS 43
theorem sc__law_told : FnScope ["_law_ask", "_law_caught", "_law_back", "error"] ["_law_ask"] (defScope s__law_told) := ⟨rfl, rfl, rfl, by decide +kernel, rfl, by decide +kernel, by decide +kernel⟩

abbrev s__law_is_judged : Stmt := topS 61
theorem sc__law_is_judged : FnScope ["_law_value", "_law_caught", "_law_made"] ["_law_value"] (defScope s__law_is_judged) := ⟨rfl, rfl, rfl, by decide +kernel, rfl, by decide +kernel, by decide +kernel⟩

/-- what the law's asking makes of the lambda's reading: the error, or what came back -/
def TTold (K : PySem.W.Frag) (CS : Addr) : (XK → Hp → VK → Prop) → Hp → VK → Prop := fun tl H Q => ∀ H1, Same H H1 → ∀ (E' : XK) (Q' : VK),
  (∀ C d H', PySem.W.exmOne K (.ref C) (.ref CS) = some true → (∀ e, H' e = none → ∀ T, upd H' e (exc e C d) T = none → Q (.ref T) (upd (upd H' e (exc e C d)) T (.tup [.ref e, .non]))) → E' (.ref C) d H') →
  (∀ v H', (∀ T, H' T = none → Q (.ref T) (upd H' T (.tup [.non, v]))) → Q' v H') → tl E' H1 Q'
def spTold (K : PySem.W.Frag) (CS : Addr) : (XK → Hp → VK → Prop) → Sp := fun tl vs H Q _ => ∃ f, vs = [.ref f] ∧ TTold K CS tl H Q
/-- the lambda raises the class B, its error keeps v -/
def Raises (B : Addr) (tl : XK → Hp → VK → Prop) (H : Hp) (v : Hp → V → Prop) : Prop := ∀ H1, Same H H1 → ∀ (E' : XK) (Q' : VK), (∀ dd wv H', Same H1 H' → H' dd = some (.xd [("value", wv)]) → v H' wv → E' (.ref B) (some dd) H') → tl E' H1 Q'
section
variable {P : Program} {w : World} {K : PySem.W.Frag} {mg : Str → Option Value} {base : Heap} {a : Ad}
theorem ok_told {fd : FuncData} (F : Fun K "_law_told" "_law_told" s__law_told a._law_told fd) (T : Txt K mg a) : FnC P w K mg base CX0 1 a._law_told fd ["_law_ask"] (spTold K a.AboutError) := by
  obtain ⟨_, _, _, _, _, _, cdv, _, _, rfl, lk, hcd⟩ := F.ex
  refine fnC_of (d := 0) lk hcd sc__law_told (fun tl vs H Q E h => ?_) (fun A outer s H vs Q E f F fr ws k tl hq hr hh hf hc C nf L h => ?_)
  · obtain ⟨f, rfl, _⟩ := h
    rfl
  · suffices z : ∃ t, PSs (cxOf CX0 P w K mg base ["_law_ask", "_law_caught", "_law_back", "error"] "_law_told" (defScope s__law_told) a._law_told cdv A outer s H E).nox (defBody s__law_told) t ∧ t { nx := fun _ H' => Q .non H', rt := Q } (L2.start ["_law_ask", "_law_caught", "_law_back", "error"] vs) H by
      obtain ⟨t, z1, z2⟩ := z
      exact ⟨t, z1.nox, z2⟩
    obtain ⟨f', rfl, h⟩ := h
    obtain rfl : f' = f := by simpa using hh
    refine ⟨_, pss_cons (ps_asg (pe_tup (pa_cons pe_non (pa_cons pe_non pa_nil))) (pg_tup rfl (pgs_cons (pg_name (i := 1) sc__law_told.nd rfl (Or.inl rfl)) (pgs_cons (pg_name (i := 2) sc__law_told.nd rfl (Or.inl rfl)) pgs_nil))))
      (pss_cons (ps_try_asT (i := 3) (c := .ref a.AboutError) rfl rfl rfl sc__law_told.nd rfl rfl ⟨rfl, by decide, .inl T.g_AboutError⟩
        (fun W pn xe tk _ => pss_one (ps_set (i := 2) sc__law_told.nd rfl (.inl rfl) (pe_callL (i := 0) tk hr C nf rfl L rfl (.inl rfl))))
        (fun e oe cls d pn _ _ => pss_one (ps_set (i := 1) sc__law_told.nd rfl (.inl rfl) (pv 3))))
      (pss_one (ps_ret (pe_tup (pa_cons (pv 1) (pa_cons (pv 2) pa_nil)))))), ?_⟩
    refine ⟨(by show 2 ≤ sizeLine; decide), fun t1 h1 => ⟨t1, _, rfl, SqT.of upd_same, rfl, ?_⟩⟩
    refine ⟨_, _, rfl, _, _, rfl, rfl, rfl, same_new h1 _ _ hf, same_new h1 _ _ hc, ?_⟩
    refine h _ (same_new h1) _ _ (fun C d H' x q => ⟨x, C, rfl, fun e he => ?_⟩) (fun v H' q => ?_)
    · refine ⟨_, rfl, _, rfl, _, rfl, (by show 2 ≤ sizeLine; decide), fun T hT => ?_⟩
      exact q e he T hT
    · refine ⟨_, rfl, _, rfl, (by show 2 ≤ sizeLine; decide), fun T hT => ?_⟩
      exact q T hT
end

def lamJ : Str := "_law_is_judged.<locals>.<lambda>"
/-- the table of code objects of the def that makes a lambda -/
abbrev TT (Pj : Addr) : List (Addr × Str) := [(Pj, lamJ)]
theorem hu_J {Pj : Addr} : ∀ p ∈ TT Pj, p.1 = Pj → p.2 = lamJ := fun p hp e => by
  simp only [List.mem_cons, List.not_mem_nil, or_false] at hp
  rw [hp]
/-! ### where the lambdas stand in the law's text -/
def noE : Expr := .Name "" ⟨0, 0, 0, 0⟩
def noS : Stmt := .Pass ⟨0, 0, 0, 0⟩
def forB : Stmt → List Stmt
  | .For _ _ b _ _ => b
  | _ => []
def stE : Stmt → Expr
  | .Assign _ v _ => v
  | .Expr v _ => v
  | .Return (some v) _ => v
  | _ => noE
def eltE (i : Nat) : Expr → Expr
  | .List es _ => es.getD i noE
  | .Tuple es _ _ => es.getD i noE
  | .Call _ es _ _ => es.getD i noE
  | e => e
def opdE : Expr → Expr
  | .UnaryOp _ e _ => e
  | .Subscript e _ _ => e
  | e => e
def lamAr : Expr → Arguments
  | .Lambda a _ _ _ => a
  | _ => ⟨[], [], none, [], [], none, []⟩
def lamBd : Expr → Expr
  | .Lambda _ b _ _ => b
  | e => e
def lamSc : Expr → Scope
  | .Lambda _ _ s _ => s
  | _ => defScope noS
def isLam : Expr → Bool
  | .Lambda .. => true
  | _ => false
abbrev dL (X : Cx) (k : Nat) (e : Expr) (fr : List Str) (js : List Nat) (tb : XK → TE) : LamD X := ⟨lamAr e, lamBd e, lamSc e, fr, js, k, tb⟩
theorem goodL {X : Cx} {k : Nat} {e : Expr} {fr : List Str} {js : List Nat} {tb : XK → TE} (h1 : nscB fr [] fr (lamSc e) = true) (h2 : ∀ (q : Str) (cl : List (Str × Addr)) (pm cv ctv : Value), bindArgs (PySem.W.kla_fn "<lambda>" q (lamAr e) (lamBd e) (lamSc e) cl pm cv ctv) ⟨[], []⟩ = pure [])
    (h3 : ndefB X.env.scope (lamSc e) fr = true) (h4 : js.map (fun j => X.N[j]?) = fr.map some)
    (bd : ∀ (f c' : Addr) (A : Around) (outer : List Env) (s : Shared) (H : Hp) (E : XK), Room k (A.deeper (envF (lamOf X (lamAr e) (lamBd e) (lamSc e) c').nf f s.heap.objs.size)) → PE (ncx (L2.CX X.prog X.w) X.prog X.w X.K X.mg X.base fr (lamOf X (lamAr e) (lamBd e) (lamSc e) c').nf f A outer s H E) (lamBd e) (tb E)) :
    (dL X k e fr js tb).Good := ⟨nscope_by h1, h2, ndef_free h3, ndef_fr h3, h4, bd⟩
theorem told_raises {K : PySem.W.Frag} {B AE : Addr} {tl : XK → Hp → VK → Prop} {H : Hp} {Q : VK} {vP : Hp → V → Prop} (ra : Raises B tl H vP) (hm : ∀ H H' v, Same H H' → vP H v → vP H' v) (hx : PySem.W.exmOne K (.ref B) (.ref AE) = some true)
    (q : ∀ H' e t wv, Same H H' → H' t = some (.tup [.ref e, .non]) → Caught H' e B wv → vP H' wv → Q (.ref t) H') : TTold K AE tl H Q := by
  intro H1 S1 E' Q' hE hQ
  refine ra H1 S1 E' Q' fun dd wv H' S2 hdd hw => hE B (some dd) H' hx fun e he t ht => ?_
  have Se := same_new (o := exc e B (some dd)) he
  have St := same_new (o := .tup [.ref e, .non]) ht
  exact q _ e t wv (((S1.trans S2).trans Se).trans St) upd_same ⟨dd, St _ _ upd_same, St _ _ (Se _ _ hdd)⟩ (hm _ _ _ (Se.trans St) hw)
theorem told_back {K : PySem.W.Frag} {AE : Addr} {tl : XK → Hp → VK → Prop} {H : Hp} {Q : VK} {R : Hp → V → Prop} (rb : ∀ H1, Same H H1 → ∀ (E' : XK) (Q' : VK), (∀ v H', Same H1 H' → R H' v → Q' v H') → tl E' H1 Q') (hm : ∀ H H' v, Same H H' → R H v → R H' v)
    (q : ∀ H' t v, Same H H' → H' t = some (.tup [.non, v]) → R H' v → Q (.ref t) H') : TTold K AE tl H Q := by
  intro H1 S1 E' Q' hE hQ
  refine rb H1 S1 E' Q' fun v H' S2 hr => hQ v H' fun t ht => ?_
  have St := same_new (o := .tup [.non, v]) ht
  exact q _ t v ((S1.trans S2).trans St) upd_same (hm _ _ _ St hr)

def leJ : Expr := eltE 0 (stE ((defBody s__law_is_judged).getD 0 noS))
theorem is_lamJ : isLam leJ = true := by decide +kernel
def tRS (K : PySem.W.Frag) (a : Ad) (E : XK) : TE := tMake a.Land (spLdI K a) [] E (tCons (tVar 0) tNil)
mutual
theorem Da.extN {H H' : Hp} (S : ExtN H H') : ∀ {v : V} {d : PyData}, Da H v d → Da H' v d
  | _, _, .non => .non
  | _, _, .bl b => .bl b
  | _, _, .int i => .int i
  | _, _, .str x => .str x
  | _, _, .lst e n t => .lst (S _ _ e fun _ z => nomatch z) n (DaAll.extN S t)
  | _, _, .tup e t => .tup (S _ _ e fun _ z => nomatch z) (DaAll.extN S t)
  | _, _, .dct e t => .dct (S _ _ e fun _ z => nomatch z) (DaAll.extN S t)
theorem DaAll.extN {H H' : Hp} (S : ExtN H H') : ∀ {vs : List V} {ds : List PyData}, DaAll H vs ds → DaAll H' vs ds
  | _, _, .nil => .nil
  | _, _, .cons h t => .cons (Da.extN S h) (DaAll.extN S t)
end
theorem mk_ld {K : PySem.W.Frag} {a : Ad} {H : Hp} {v : V} {d : PyData} {E : XK} {Q : VK} {x dx : Addr} (hd : Da H v d) (hx : H x = none) (hdx : H dx = none)
    (q : ∀ ps, landD d = some ps → ∀ H', Same H H' → LdQ a H' (.ref x) v ps → Q .non H') (r : landD d = none → Told H v a.BadLand E) : spLdI K a [.ref x, v] (upd (upd H dx (.own x)) x (.ins a.Land dx [])) Q E := by
  have S : Same H (upd (upd H dx (.own x)) x (.ins a.Land dx [])) := fun b o e => by
    rw [upd_ne (ne_of_none e hx), upd_ne (ne_of_none e hdx)]
    exact e
  exact ⟨x, dx, v, d, rfl, upd_same, hd.same S, fun ps e H' k l => q ps e H' (fun b o z => k b o (ne_of_none z hx) (S b o z)) l, fun e => (r e).same S⟩
theorem LdQ.same {a : Ad} {H H' : Hp} {z v : V} {ps : List PP} (S : Same H H') (h : LdQ a H z v ps) : LdQ a H' z v ps := by
  obtain ⟨b, dx, t, bl, c, us, ws, bs, rfl, h1, rfl, h2, h3, h4, h5, h6, h7⟩ := h
  exact ⟨b, dx, t, bl, c, us, ws, bs, rfl, S _ _ h1, rfl, S _ _ h2, Paired.mapP h3 fun _ _ e => Pt.same S e, S _ _ h4, Paired.mapP h5 fun _ _ e => LnQ.same S e, S _ _ h6, Paired.mapP h7 fun _ _ e => Pt.same S e⟩
/-- data small enough to be shown -/
def Shw (d : PyData) : Prop := ∃ n k, Gd n k d ∧ n ≤ 2 ^ 20 ∧ k ≤ 20
def spJud (Pj : Addr) : Sp := fun vs H Q _ => ∃ v d, vs = [v] ∧ Da H v d ∧ Shw d ∧ Tabs (TT Pj) H ∧ ∀ H', Tabs (TT Pj) H' → ExtN H H' → Q (.bl true) H'
section
variable {P : Program} {w : World} {K : PySem.W.Frag} {mg : Str → Option Value} {base : Heap} {a : Ad}
abbrev juN : List Str := ["_law_value", "_law_caught", "_law_made"]
abbrev cxJu (P : Program) (w : World) (K : PySem.W.Frag) (mg : Str → Option Value) (base : Heap) (a : Ad) (cA : Addr) (A : Around) (outer : List Env) (s : Shared) (H : Hp) (E : XK) : Cx :=
  (cxOf CX0 P w K mg base juN "_law_is_judged" (defScope s__law_is_judged) a._law_is_judged (.ref cA) A outer s H E).nox
theorem ok_judged {cA Pj : Addr} {oc kV doc pm ct : Value} {an od : Option Addr} {osl : Array (Option Value)} (T : Txt K mg a)
    (lk : K.lookup a._law_is_judged = some ⟨oc, od, .func (PySem.W.fnOf "_law_is_judged" "_law_is_judged" (defArgs s__law_is_judged) (defBody s__law_is_judged) (defScope s__law_is_judged) .none kV doc pm an (.ref cA) ct), osl⟩)
    (hc : PySem.W.codeIn K (.ref cA) "_law_is_judged" = true) (TB : TabB base mg cA Pj)
    {fdt : FuncData} (Gt : FnC P w K mg base CX0 1 a._law_told fdt ["_law_ask"] (spTold K a.AboutError)) (bt : Binds K fdt ["_law_ask"] [])
    {fd__law_is_land : FuncData} (G__law_is_land : Fn P w K mg base CX0 3 a._law_is_land fd__law_is_land ["_law_value"] spIsLand) (b__law_is_land : Binds K fd__law_is_land ["_law_value"] [])
    {fd_Land___init__ : FuncData} (G_Land___init__ : FnOk P w K mg base (L2.CX P w) 8 a.Land___init__ fd_Land___init__ ["self", "corners"] (spLdI K a)) (b_Land___init__ : Binds K fd_Land___init__ ["self", "corners"] [])
    : Fn P w K mg base CX0 14 a._law_is_judged (PySem.W.fnOf "_law_is_judged" "_law_is_judged" (defArgs s__law_is_judged) (defBody s__law_is_judged) (defScope s__law_is_judged) .none kV doc pm an (.ref cA) ct) ["_law_value"] (spJud Pj) := by
  refine fnOf lk hc sc__law_is_judged (fun vs H Q E h => ?len) (fun A outer s H vs Q E hq hr h => ?body)
  case len => obtain ⟨v, d, rfl, _⟩ := h; rfl
  case body =>
    suffices z : ∃ t, PSs (cxJu P w K mg base a cA A outer s H E) (defBody s__law_is_judged) t ∧ t { nx := fun _ H' => Q .non H', rt := Q } (L2.start juN vs) H by
      obtain ⟨t, z1, z2⟩ := z
      exact ⟨t, z1.nox, z2⟩
    have g1 : (dL (cxJu P w K mg base a cA A outer s H E) 10 leJ ["_law_value"] [0] (tRS K a)).Good := goodL (by decide +kernel) (fun _ _ _ _ _ => rfl) (show ndefB (defScope s__law_is_judged) (lamSc leJ) ["_law_value"] = true by decide +kernel) rfl fun f c' A outer s H E hr2 =>
      pe_make T.m_Land G_Land___init__ (hr2.mono (by omega)) (by rfl) T.g_Land b_Land___init__ .nil (passes_call (takes_of rfl rfl rfl rfl) fun _ _ _ _ h => h) (pa_cons (pv 0) pa_nil)
    refine ⟨_, (pss_cons (ps_asg (pe_fnC Gt hq (by rfl) T.g__law_told T.k__law_told bt .nil pass0 (pa_cons (pe_lamK (T := TT Pj) TB rfl (List.mem_cons_self ..) hu_J rfl (lamS_by (sc := defScope s__law_is_judged) (by decide +kernel))) pa_nil) (known_here g1 (fun _ _ _ => rfl) (hr.mono (by show 10 + 1 + 1 ≤ 13; decide)))) (pg_tup rfl (pgs_cons (pg_name (i := 1) sc__law_is_judged.nd rfl (Or.inl rfl)) (pgs_cons (pg_name (i := 2) sc__law_is_judged.nd rfl (Or.inl rfl)) pgs_nil))))
      (pss_cons (ps_if (pt_not (pt_val (pe_fn G__law_is_land hq (hr.mono (by omega)) (by rfl) T.g__law_is_land T.k__law_is_land b__law_is_land .nil pass0 (pa_cons (pv 0) pa_nil)))) (pss_one (ps_ret (pe_and (pe_callB (call_isCaught T.ek) (by rfl) T.n_isinstance (by decide +kernel) (pa_cons (pv 1) (pa_cons (pe_glob (v := .ref a.BadLand) (by rfl) T.g_BadLand rfl) pa_nil))) (pe_one (pe_cmpR op_eq (pe_callB (call_reprD hq hr.units) (by rfl) T.n_repr (by decide +kernel) (pa_cons (pe_valueC (pv 1)) pa_nil)) (pe_callB (call_reprD hq hr.units) (by rfl) T.n_repr (by decide +kernel) (pa_cons (pv 0) pa_nil)) (nomark _)))))) pss_nil)
      (pss_one (ps_ret (pe_and (pe_cmpR op_isN (pv 1) pe_non (nomark _)) (pe_one (pe_cmpR op_eq (pe_callB (call_reprD hq hr.units) (by rfl) T.n_repr (by decide +kernel) (pa_cons (pe_fld (pv 2) rfl) pa_nil)) (pe_callB (call_reprD hq hr.units) (by rfl) T.n_repr (by decide +kernel) (pa_cons (pv 0) pa_nil)) (nomark _)))))))), ?_⟩
    obtain ⟨v, d, rfl, hd, sh, tabs, q⟩ := h
    refine ⟨tabs, fun f c' H2 eN T2 nn nf hf hc => ⟨f, _, _, ⟨c', rfl, rfl⟩, rfl, hf, hc, f, rfl, ?_⟩⟩
    have hd2 := Da.extN eN hd
    cases hld : landD d with
    | none =>
      refine told_raises (B := a.BadLand) (vP := fun _ u => u = v) (fun H3 S3 E' Q' hE => ⟨_, rfl, ?_⟩) (fun _ _ _ _ h => h) T.x_BadLand fun H3 e t wv S3 ht ct hw => ?_
      · intro x dx c1 c2 c3
        exact mk_ld (hd2.same S3) c1 c2 (fun ps e => by rw [hld] at e; cases e) fun _ dd H' S e => hE dd v H' S e rfl
      subst hw
      refine ⟨t, _, rfl, SqT.of ht, rfl, _, _, rfl, _, _, rfl, rfl, ?_⟩
      have hd3 := hd2.same S3
      have e3 : ExtN H H3 := eN.trans (ExtN.of S3)
      have T3 := Tabs.ext T2 S3
      obtain ⟨n, k, g, hn, hk⟩ := sh
      refine ⟨_, rfl, wv, d, rfl, hd3, fun H4 S4 => ⟨_, rfl, ?_⟩⟩
      rw [hld]
      refine iteT ?_
      refine ⟨_, rfl, e, a.BadLand, _, _, _, true, rfl, .own _, T.c_BadLand, ct.same S4, T.t_BadLand, true, rfl, iteT ?_⟩
      refine ⟨_, rfl, e, a.BadLand, _, rfl, T.c_BadLand, ct.same S4, _, d, n, k, rfl, hd3.same S4, g, ⟨hn, hk⟩, ?_⟩
      refine ⟨_, rfl, _, d, n, k, rfl, hd3.same S4, g, ⟨hn, hk⟩, rfl, ?_⟩
      rw [decide_eq_true rfl]
      exact q _ (Tabs.ext T3 S4) (e3.trans (ExtN.of S4))
    | some ps =>
      refine told_back (R := fun H u => LdQ a H u v ps) (fun H3 S3 E' Q' hQ => ⟨_, rfl, ?_⟩) (fun H H' u S h => h.same S) fun H3 t u S3 ht lu => ?_
      · intro x dx c1 c2 c3
        refine mk_ld (hd2.same S3) c1 c2 (fun ps' e H' S l => ⟨rfl, hQ _ H' S ?_⟩) fun e => by rw [hld] at e; cases e
        rw [hld] at e
        cases e
        exact l
      refine ⟨t, _, rfl, SqT.of ht, rfl, _, _, rfl, _, _, rfl, rfl, ?_⟩
      have hd3 := hd2.same S3
      have e3 : ExtN H H3 := eN.trans (ExtN.of S3)
      have T3 := Tabs.ext T2 S3
      obtain ⟨n, k, g, hn, hk⟩ := sh
      refine ⟨_, rfl, v, d, rfl, hd3, fun H4 S4 => ⟨_, rfl, ?_⟩⟩
      rw [hld]
      refine iteF ?_
      refine ⟨_, rfl, rfl, _, rfl, iteT ?_⟩
      obtain ⟨b, dx, te, bl, c, us, ws, bs, rfl, hb, rfl, hrest⟩ := lu
      refine ⟨_, rfl, b, _, dx, _, _, rfl, S4 _ _ hb, T.clD, T.nC, rfl, _, d, n, k, rfl, hd3.same S4, g, ⟨hn, hk⟩, ?_⟩
      refine ⟨_, rfl, _, d, n, k, rfl, hd3.same S4, g, ⟨hn, hk⟩, rfl, ?_⟩
      rw [decide_eq_true rfl]
      exact q _ (Tabs.ext T3 S4) (e3.trans (ExtN.of S4))
end
end My

namespace My
open PySem PySem.Spec PyProof.Rows L2 G LamX NdefX
/-! ### all but the pot and the tables of code objects stays -/
def IsTb (H : Hp) (b : Addr) : Prop := ∃ ps, H b = some (.tbl ps)
noncomputable abbrev vw (p : Addr) (H : Hp) : Hp := mask (fun b => b = p ∨ IsTb H b) H
theorem vw_le (p : Addr) (H : Hp) : Same (vw p H) H := mask_le _ _
theorem vw_at {p b : Addr} {H : Hp} {o : HO} (h : H b = some o) (hb : b ≠ p) (ho : ∀ ps, o ≠ .tbl ps) : vw p H b = some o := by
  refine (mask_out ?_).trans h
  rintro (z | ⟨ps, z⟩)
  · exact hb z
  · rw [h] at z
    exact ho ps (Option.some.inj z)
theorem vw_some {p b : Addr} {H : Hp} {o : HO} (h : vw p H b = some o) : b ≠ p ∧ H b = some o ∧ ∀ ps, o ≠ .tbl ps := by
  obtain ⟨n, e⟩ := mask_some h
  exact ⟨fun z => n (.inl z), e, fun ps z => n (.inr ⟨ps, by rw [e, z]⟩)⟩
def Kp (p : Addr) (H H' : Hp) : Prop := Same (vw p H) (vw p H')
theorem Kp.refl (p : Addr) (H : Hp) : Kp p H H := Same.refl _
theorem Kp.trans {p : Addr} {H H1 H2 : Hp} (a : Kp p H H1) (b : Kp p H1 H2) : Kp p H H2 := Same.trans a b
theorem Kp.same {p : Addr} {H H' : Hp} (S : Same H H') : Kp p H H' := fun b o e => by
  obtain ⟨n, e, t⟩ := vw_some e
  exact vw_at (S _ _ e) n t
theorem Kp.ext {p : Addr} {H H' : Hp} (S : ExtN H H') : Kp p H H' := fun b o e => by
  obtain ⟨n, e, t⟩ := vw_some e
  exact vw_at (S _ _ e t) n t
theorem Kp.go {p : Addr} {n : Nat} {H H' : Hp} (g : Go p n H H') : Kp p H H' := fun b o e => by
  obtain ⟨n, e, t⟩ := vw_some e
  exact vw_at (g.at e n) n t
theorem Kp.at {p b : Addr} {H H' : Hp} {o : HO} (k : Kp p H H') (h : H b = some o) (hb : b ≠ p) (ho : ∀ ps, o ≠ .tbl ps) : H' b = some o := (vw_some (k b o (vw_at h hb ho))).2.1
theorem Kp.over {p D : Addr} {H H' : Hp} {ys : List V} (k : Kp p H H') (n : H D = none) : Kp p H (upd H' D (.lst ys)) := fun b o e => by
  obtain ⟨nb, eb, t⟩ := vw_some e
  exact vw_at (by rw [upd_ne (ne_of_none eb n)]; exact k.at eb nb t) nb t
theorem PotAt.ext {p : Addr} {k : Nat} {H H' : Hp} (S : ExtN H H') (h : PotAt H p k) : PotAt H' p k := by
  obtain ⟨a, b, c, e, r⟩ := h
  exact ⟨a, b, c, S _ _ e (fun _ z => nomatch z), r⟩
theorem codeO_no {c : Addr} {q : Str} {xs : List V} : CodeO c q ≠ .lst xs := fun z => by
  unfold CodeO at z
  cases z
theorem Tabs.go {T : List (Addr × Str)} {p : Addr} {m n : Nat} {H H' : Hp} (g : Go p n H H') (pot : PotAt H p m) (t : Tabs T H) : Tabs T H' := fun x hx => by
  obtain ⟨a, b, c, f, _⟩ := pot
  obtain ⟨ps, h1, h2, h3⟩ := t x hx
  refine ⟨ps, g.at h1 (fun z => ?_), h2, fun ps cv hc => ?_⟩
  · rw [z, f] at h1
    cases h1
  · obtain ⟨y, e1, e2⟩ := h3 ps cv hc
    refine ⟨y, e1, g.at e2 fun z => ?_⟩
    rw [z, f] at e2
    exact codeO_no (Option.some.inj e2).symm
theorem lst_ne {H : Hp} {D b : Addr} {xs : List V} {o : HO} (hD : H D = some (.lst xs)) (h : H b = some o) (no : ∀ ys, o ≠ .lst ys) : b ≠ D := fun z => by
  rw [z, hD] at h
  exact no _ (Option.some.inj h).symm
theorem Tabs.over {T : List (Addr × Str)} {D : Addr} {H : Hp} {xs ys : List V} (t : Tabs T H) (hD : H D = some (.lst xs)) : Tabs T (upd H D (.lst ys)) := fun x hx => by
  obtain ⟨ps, h1, h2, h3⟩ := t x hx
  refine ⟨ps, by rw [upd_ne (lst_ne hD h1 fun _ z => nomatch z)]; exact h1, h2, fun ps cv hc => ?_⟩
  obtain ⟨y, e1, e2⟩ := h3 ps cv hc
  exact ⟨y, e1, by rw [upd_ne (lst_ne hD e2 fun _ => codeO_no)]; exact e2⟩

theorem passF {X : Cx} : Passes (L2.CX X.prog X.w) X E0 := fun _ _ _ _ _ _ _ h => by
  obtain ⟨_, _, _, _, _, _, _, _, _, _, _, _, z⟩ := h
  exact z.elim

/-- where the law stands -/
structure Sta (Pj p : Addr) (H H' : Hp) (n : Nat) : Prop where
  kp : Kp p H H'
  tb : Tabs (TT Pj) H'
  pt : PotAt H' p n
section
variable {Pj p : Addr} {H H1 H2 : Hp} {m n : Nat}
theorem Sta.go (s : Sta Pj p H H1 m) (g : Go p n H1 H2) : Sta Pj p H H2 n := ⟨s.kp.trans (Kp.go g), Tabs.go g s.pt s.tb, g.pot⟩
theorem Sta.same (s : Sta Pj p H H1 m) (S : Same H1 H2) : Sta Pj p H H2 m := ⟨s.kp.trans (Kp.same S), Tabs.ext s.tb S, s.pt.same S⟩
theorem Sta.ext (s : Sta Pj p H H1 m) (S : ExtN H1 H2) (t : Tabs (TT Pj) H2) : Sta Pj p H H2 m := ⟨s.kp.trans (Kp.ext S), t, s.pt.ext S⟩
theorem Sta.mono (s : Sta Pj p H H1 m) (h : m ≤ n) : Sta Pj p H H1 n := ⟨s.kp, s.tb, s.pt.mono h⟩
theorem Sta.here (s : Sta Pj p H H1 m) : Sta Pj p H1 H1 m := ⟨Kp.refl _ _, s.tb, s.pt⟩
theorem Sta.trans (s : Sta Pj p H H1 m) (t : Sta Pj p H1 H2 n) : Sta Pj p H H2 n := ⟨s.kp.trans t.kp, t.tb, t.pt⟩
end
/-! ### what is seen of the heap but for the pot and the tables -/
def NoLT (H H' : Hp) : Prop := ∀ b o, H b = some o → (∀ xs, o ≠ .lst xs) → (∀ ps, o ≠ .tbl ps) → H' b = some o
theorem nolt_vw {p : Addr} {n : Nat} {H : Hp} (pot : PotAt H p n) : NoLT H (vw p H) := fun b o e l t => vw_at e (fun z => by
  obtain ⟨x, y, w, f, _⟩ := pot
  rw [z, f] at e
  exact l _ (Option.some.inj e).symm) t
section
variable {C CP CL : Addr} {H H' : Hp} {z : V} {X Y X2 Y2 : Rat}
theorem RatQ.nolt (nl : NoLT H H') (h : RatQ C H z X) : RatQ C H' z X := let ⟨b, d, q, e⟩ := h; ⟨b, d, q, nl _ _ e (fun _ w => nomatch w) (fun _ w => nomatch w)⟩
theorem PtQ.nolt (nl : NoLT H H') (h : PtQ C CP H z X Y) : PtQ C CP H' z X Y := let ⟨b, d, v, w, q, e, h1, h2⟩ := h; ⟨b, d, v, w, q, nl _ _ e (fun _ w => nomatch w) (fun _ w => nomatch w), h1.nolt nl, h2.nolt nl⟩
theorem LnQ.nolt (nl : NoLT H H') (h : LnQ C CP CL H z X Y X2 Y2) : LnQ C CP CL H' z X Y X2 Y2 := let ⟨b, d, v, w, q, e, h1, h2⟩ := h; ⟨b, d, v, w, q, nl _ _ e (fun _ w => nomatch w) (fun _ w => nomatch w), h1.nolt nl, h2.nolt nl⟩
theorem Pt.nolt {ns : List Int} (nl : NoLT H H') (h : Pt H z ns) : Pt H' z ns := let ⟨t, e, x⟩ := h; ⟨t, e, nl _ _ x (fun _ z => nomatch z) (fun _ z => nomatch z)⟩
theorem MkAt.nolt {x y : Int} (nl : NoLT H H') (h : MkAt H z x y) : MkAt H' z x y := let ⟨t, w, q, e, a, b⟩ := h; ⟨t, w, q, e, nl _ _ a (fun _ z => nomatch z) (fun _ z => nomatch z), nl _ _ b (fun _ z => nomatch z) (fun _ z => nomatch z)⟩
end
/-- the marks -/
def Mf (p : Addr) (H : Hp) (m : Addr) (ms : List V) (mm : List PP) : Prop := vw p H m = some (.lst ms) ∧ Mks (vw p H) ms mm
theorem Mf.kp {p m : Addr} {H H' : Hp} {ms : List V} {mm : List PP} (k : Kp p H H') (h : Mf p H m ms mm) : Mf p H' m ms mm := ⟨k _ _ h.1, h.2.same k⟩
theorem Mf.of {p m : Addr} {n : Nat} {H : Hp} {ms : List V} {mm : List PP} (pot : PotAt H p n) (h : H m = some (.lst ms)) (ne : m ≠ p) (k : Mks H ms mm) : Mf p H m ms mm := ⟨vw_at h ne (fun _ z => nomatch z), Paired.mapP k fun _ _ e => ⟨e.1.nolt (nolt_vw pot), e.2⟩⟩
/-- the corners -/
def Cf (p : Addr) (H : Hp) (c : Addr) (us : List V) (ps : List PP) : Prop := vw p H c = some (.tup us) ∧ Pls (vw p H) us ps
theorem Cf.kp {p c : Addr} {H H' : Hp} {us : List V} {ps : List PP} (k : Kp p H H') (h : Cf p H c us ps) : Cf p H' c us ps := ⟨k _ _ h.1, Paired.mapP h.2 fun _ _ e => Pt.same k e⟩
theorem Cf.of {p c : Addr} {n : Nat} {H : Hp} {us : List V} {ps : List PP} (pot : PotAt H p n) (h : H c = some (.tup us)) (k : Pls H us ps) : Cf p H c us ps := ⟨vw_at h (pot.tup h) (fun _ z => nomatch z), Paired.mapP k fun _ _ e => Pt.nolt (nolt_vw pot) e⟩
theorem Cf.tup {p c : Addr} {H : Hp} {us : List V} {ps : List PP} (h : Cf p H c us ps) : H c = some (.tup us) := vw_le p H _ _ h.1
theorem Cf.pls {p c : Addr} {H : Hp} {us : List V} {ps : List PP} (h : Cf p H c us ps) : Pls H us ps := Paired.mapP h.2 fun _ _ e => Pt.same (vw_le p H) e
/-- a land -/
abbrev Lf (a : Ad) (p : Addr) (H : Hp) (z v : V) (ps : List PP) : Prop := LdQ a (vw p H) z v ps
theorem Lf.kp {a : Ad} {p : Addr} {H H' : Hp} {z v : V} {ps : List PP} (k : Kp p H H') (h : Lf a p H z v ps) : Lf a p H' z v ps := LdQ.same k h
theorem Lf.ld {a : Ad} {p : Addr} {H : Hp} {z v : V} {ps : List PP} (h : Lf a p H z v ps) : LdQ a H z v ps := LdQ.same (vw_le p H) h
theorem Lf.of {a : Ad} {p : Addr} {n : Nat} {H : Hp} {z v : V} {ps : List PP} (pot : PotAt H p n) (h : LdQ a H z v ps) (ne : ps ≠ []) : Lf a p H z v ps := by
  obtain ⟨b, dx, t, bl, c, us, ws, bs, rfl, h1, rfl, h2, h3, h4, h5, h6, h7⟩ := h
  have nl := nolt_vw pot
  have nb : bl ≠ p := fun e => by
    obtain ⟨x, y, w, f, _⟩ := pot
    rw [e, f] at h6
    cases h6
    obtain ⟨d, r, rfl⟩ : ∃ d r, ps = d :: r := by
      cases ps with
      | nil => exact absurd rfl ne
      | cons d r => exact ⟨d, r, rfl⟩
    obtain ⟨q, _, _, e, _⟩ := paired_at h7 (i := 0) rfl
    cases e
  exact ⟨b, dx, t, bl, c, us, ws, bs, rfl, nl _ _ h1 (fun _ z => nomatch z) (fun _ z => nomatch z), rfl, nl _ _ h2 (fun _ z => nomatch z) (fun _ z => nomatch z), Paired.mapP h3 fun _ _ e => Pt.nolt nl e,
    nl _ _ h4 (fun _ z => nomatch z) (fun _ z => nomatch z), Paired.mapP h5 fun _ _ e => LnQ.nolt nl e, vw_at h6 nb (fun _ z => nomatch z), Paired.mapP h7 fun _ _ e => Pt.nolt nl e⟩
/-! ### corners as data -/
theorem pls_da {H : Hp} : ∀ {us : List V} {ps : List PP}, Pls H us ps → DaAll H us (ps.map plD)
  | _, _, .nil => .nil
  | _, _, .cons h t => by
    obtain ⟨q, rfl, e⟩ := h
    exact .cons (.tup e (.cons (.int _) (.cons (.int _) .nil))) (pls_da t)
theorem cors_pl : ∀ {ps : List PP}, (∀ x ∈ ps, Nr x) → corsD (ps.map plD) = some ps
  | [], _ => rfl
  | x :: ps, h => by
    have h1 := cors_pl fun y hy => h y (List.mem_cons_of_mem _ hy)
    obtain ⟨⟨n1, n2⟩, n3, n4⟩ := h x (List.mem_cons_self ..)
    have c1 : nearB x.1 = true := decide_eq_true (by split <;> omega)
    have c2 : nearB x.2 = true := decide_eq_true (by split <;> omega)
    have hx : corD (plD x) = some x := by
      show (if nearB x.1 && nearB x.2 then some (x.1, x.2) else none) = some x
      rw [c1, c2]
      rfl
    rw [List.map_cons]
    unfold corsD
    rw [hx, h1]
theorem land_pl {ps : List PP} (h3 : 3 ≤ ps.length) (h8 : ps.length ≤ 8) (nr : ∀ x ∈ ps, Nr x) (cv : Cvx ps) : landD (.tuple (ps.map plD)) = some ps :=
  land_yes (by rw [List.length_map]; exact h3) (by rw [List.length_map]; exact h8) (cors_pl nr) (cvx_goes (by omega) cv)
theorem cvx_nd {ps : List PP} (h3 : 3 ≤ ps.length) (cv : Cvx ps) : ps.Nodup := ((goes_law h3).mp (cvx_goes (by omega) cv)).2
theorem rot_eq {ps : List PP} {k : Nat} (nd : ps.Nodup) (hk : k < ps.length) : (ps.drop k ++ ps.take k = ps) ↔ k = 0 := by
  constructor
  · intro e
    by_cases h : k = 0
    · exact h
    · exfalso
      have h0 : (ps.drop k ++ ps.take k)[0]? = ps[0]? := by rw [e]
      rw [List.getElem?_append_left (by rw [List.length_drop]; omega), List.getElem?_drop, Nat.add_zero] at h0
      have := (List.getElem?_inj hk nd).mp h0
      omega
  · rintro rfl
    simp
theorem take3_eq {ps : List PP} (h3 : 3 ≤ ps.length) : (ps.take 3 = ps) ↔ ps.length = 3 := by
  constructor
  · intro e
    have := congrArg List.length e
    rw [List.length_take] at this
    omega
  · intro e
    exact List.take_of_length_le (by omega)
theorem cvx_take {ps : List PP} (k : Nat) (cv : Cvx ps) : Cvx (ps.take k) := cvx_sub (List.take_sublist k ps) cv
/-! ### data beside lists that change -/
theorem Is.put {N : Addr → Prop} {H : Hp} {G : PyData → Prop} {v : V} {s : Addr} {o : HO} (x : Is N H G v) (h : H s = none) : Is (fun b => N b ∨ b = s) (upd H s o) G v := by
  obtain ⟨d, a, g⟩ := x
  refine ⟨d, a.same fun b u e => ?_, g⟩
  obtain ⟨nb, e⟩ := mask_some e
  have hb := ne_of_none e h
  rw [mask_out (by rintro (z | z); exact nb z; exact hb z), upd_ne hb]
  exact e
theorem Is.over {N : Addr → Prop} {H : Hp} {G : PyData → Prop} {v : V} {s : Addr} {o : HO} (x : Is N H G v) (h : N s) : Is N (upd H s o) G v := by
  obtain ⟨d, a, g⟩ := x
  refine ⟨d, a.same fun b u e => ?_, g⟩
  obtain ⟨nb, e⟩ := mask_some e
  rw [mask_out nb, upd_ne fun z => nb (by rw [z]; exact h)]
  exact e
theorem Is.extN {N : Addr → Prop} {H H' : Hp} {G : PyData → Prop} {v : V} (S : ExtN H H') (x : Is N H G v) : Is N H' G v := by
  obtain ⟨d, a, g⟩ := x
  refine ⟨d, Da.extN (fun b u e n => ?_) a, g⟩
  obtain ⟨nb, e⟩ := mask_some e
  rw [mask_out nb]
  exact S b u e n
theorem Is.da {N : Addr → Prop} {H : Hp} {G : PyData → Prop} {v : V} (x : Is N H G v) : ∃ d, Da H v d ∧ G d := let ⟨d, a, g⟩ := x; ⟨d, a.same (mask_le N H), g⟩
theorem gd_shw {n k : Nat} (hn : n ≤ 2 ^ 20) (hk : k ≤ 20) : ∀ d, Gd n k d → Shw d := fun d g => ⟨n, k, g, hn, hk⟩
/-- what was seen at first is seen beside a list that was made since -/
theorem vw_mask {p S : Addr} {H0 H' : Hp} (k : Kp p H0 H') (n : H0 S = none) : Same (vw p H0) (mask (fun b => b = p ∨ b = S) H') := fun b o e => by
  obtain ⟨nb, e, t⟩ := vw_some e
  rw [mask_out (by rintro (z | z); exact nb z; exact ne_of_none e n z)]
  exact k.at e nb t
theorem sql_ext {K : PySem.W.Frag} {H H' : Hp} {a : Addr} {xs : List V} (e : ExtN H H') (h : SqL K H a xs) : SqL K H' a xs := by
  rcases h with (h | ⟨o, h⟩) | h
  · exact .inl (.inl (e _ _ h fun _ z => nomatch z))
  · exact .inl (.inr ⟨o, e _ _ h fun _ z => nomatch z⟩)
  · exact .inr h
theorem t_asgN {te : TE} {i : Nat} {D : Ends} {σ : L2.St} {H : Hp} (h : te σ H fun x H1 => D.nx (σ.set i (some x)) H1) : tAsg te (gName i) D σ H := h
theorem t_lst {t : TA} {σ : L2.St} {H : Hp} {Q : VK} (h : t σ H fun xs H1 => xs.length ≤ sizeLine ∧ ∀ p, H1 p = none → p ≠ sysModules → Q (.ref p) (upd H1 p (.lst xs))) : tLstS t σ H Q := h
/-- what corners are -/
theorem pl_bt {x : PP} (h : Nr x) : Bt 1 (plD x) := .inr ⟨[.int x.1, .int x.2], rfl, (by show 1 ≤ 2; decide), (by show 2 ≤ 8; decide), fun d hd => by
  simp only [List.mem_cons, List.not_mem_nil, or_false] at hd
  obtain ⟨⟨n1, n2⟩, n3, n4⟩ := h
  rcases hd with rfl | rfl
  · exact ⟨_, rfl, n1, n2⟩
  · exact ⟨_, rfl, n3, n4⟩⟩
theorem pls_bt {ps : List PP} (h1 : 1 ≤ ps.length) (h8 : ps.length ≤ 8) (nr : ∀ x ∈ ps, Nr x) : Bt 2 (.tuple (ps.map plD)) := .inr ⟨_, rfl, by rw [List.length_map]; exact h1, by rw [List.length_map]; exact h8, fun d hd => by
  obtain ⟨x, hx, rfl⟩ := List.mem_map.mp hd
  exact pl_bt (nr x hx)⟩
theorem pl_gd {x : PP} (h : Nr x) : Gd 26 1 (plD x) := gd_tup (n := 12) (m := 2) (fun d hd => by
  simp only [List.mem_cons, List.not_mem_nil, or_false] at hd
  obtain ⟨⟨n1, n2⟩, n3, n4⟩ := h
  rcases hd with rfl | rfl
  · exact gd_int12 (by omega)
  · exact gd_int12 (by omega)) (by show 2 ≤ 2; decide) (by decide)
theorem Dot.go {p : Addr} {m j : Nat} {H H' : Hp} {v : V} {k : Nat} {x y d : Int} (pot : PotAt H p m) (g : Go p j H H') (h : Dot H v k x y d) : Dot H' v k x y d := ⟨h.1.go pot g, h.2⟩
theorem Dot.over {D : Addr} {H : Hp} {xs ys : List V} {v : V} {k : Nat} {x y d : Int} (hD : H D = some (.lst xs)) (h : Dot H v k x y d) : Dot (upd H D (.lst ys)) v k x y d := by
  obtain ⟨⟨t, rfl, e⟩, r⟩ := h
  exact ⟨⟨t, rfl, by rw [upd_ne (fun z => by rw [z, hD] at e; cases e)]; exact e⟩, r⟩
theorem pls_gd {ps : List PP} (h8 : ps.length ≤ 8) (nr : ∀ x ∈ ps, Nr x) : Gd 216 2 (.tuple (ps.map plD)) := gd_tup (n := 26) (m := 8) (fun d hd => by
  obtain ⟨x, hx, rfl⟩ := List.mem_map.mp hd
  exact pl_gd (nr x hx)) (by rw [List.length_map]; exact h8) (by decide)
theorem gd_bl {n k : Nat} (b : Bool) : Gd n k (.bool b) := ⟨rfl, rfl, Nat.zero_le _, Nat.zero_le _⟩
theorem tr_two {p S : Addr} {n : Nat} {H : Hp} {xs : List V} (pot : PotAt H p n) (hS : H S = some (.lst xs)) : Tr (fun b => b = p ∨ b = S) H := fun b e => by
  rcases e with e | e
  · rw [e]; exact pot.has
  · rw [e, hS]; simp
/-- a list with more behind it: what is in it is seen beside it -/
theorem is_app {p S q : Addr} {H1 H2 : Hp} {xs ys zs : List V} {G : PyData → Prop} (h1 : ∀ x ∈ xs, Is (fun b => b = p ∨ b = S) H1 Shw x) (S2 : Same H1 H2) (h2 : ∀ x ∈ ys, Is (fun b => b = p ∨ b = S) H2 G x) (g : ∀ d, G d → Shw d) (nq : H2 q = none) :
    ∀ x ∈ xs ++ ys, Is (fun b => b = p ∨ b = q) (upd H2 q (.lst zs)) Shw x := fun x hx => by
  have l : ∀ b, (b = p ∨ b = q) → (b = p ∨ b = S) ∨ b = q := fun b e => e.elim (fun e => .inl (.inl e)) .inr
  rcases List.mem_append.mp hx with h | h
  · exact Is.less l (Is.put ((h1 x h).same S2) nq)
  · exact Is.less l (Is.put ((h2 x h).imp g) nq)
theorem cf_da {p c S : Addr} {H0 H' : Hp} {us : List V} {ps : List PP} (h : Cf p H0 c us ps) (k : Kp p H0 H') (n : H0 S = none) : Da (mask (fun b => b = p ∨ b = S) H') (.ref c) (.tuple (ps.map plD)) :=
  .tup (vw_mask k n _ _ h.1) (DaAll.same (vw_mask k n) (pls_da h.2))
theorem cf_is {N : Addr → Prop} {p c : Addr} {H : Hp} {us : List V} {ps : List PP} (h : Cf p H c us ps) (nr : ∀ x ∈ ps, Nr x) (hN : ∀ b, N b → b = p) : ∀ x ∈ us, Is N H (Gd 26 1) x :=
  is_of_daAll (DaAll.same (mask_less fun b z => .inl (hN b z)) (pls_da h.2)) fun d hd => by
    obtain ⟨x, hx, rfl⟩ := List.mem_map.mp hd
    exact pl_gd (nr x hx)
end My

namespace My
open PySem PySem.Spec PyProof.Rows L2 G LamX NdefX
abbrev s__law_right : Stmt := topS 63
theorem sc__law_right : FnScope ["_law_pot_here", "_law_marks_here", "_law_corners_here", "_law_field", "_law_at", "_law_lines_here", "_law_dot", "_law_around", "_law_lesser", "_law_some_here", "_law_turn", "_law_star", "_law_odd_here", "_law_a", "_law_b", "_law_c", "_law_d", "_law_one", "_law_other", "_law_value"] ["_law_pot_here"] (defScope s__law_right) := ⟨rfl, rfl, rfl, by decide +kernel, rfl, by decide +kernel, by decide +kernel⟩

abbrev rS (p : Addr) (x1 x2 x3 x4 x5 x6 x7 x8 x9 x10 x11 x12 : Option V) : L2.St := [some (.ref p), x1, x2, x3, x4, x5, x6, x7, x8, x9, x10, x11, x12, none, none, none, none, none, none, none]
local macro_rules | `(tactic| walk_at "evp") => `(tactic| repeat (first
  | exact eva_nil
  | apply eva_cons
  | exact evg_int (gd_int12 (by decide))
  | exact evg_neg (gd_int12 (by decide))
  | exact evg_bl (gd_bl _)
  | (apply evg_tup (G' := Gd 12 0) (G := Gd 26 1); (case h => walk_at "evp"); (case t => assumption); (case hm => decide); (case g => exact fun ds l h => gd_tup h (Nat.le_of_eq l) (by decide)))
  | (apply evg_tup (G' := Gd 26 1) (G := Gd 700 2); (case h => walk_at "evp"); (case t => assumption); (case hm => decide); (case g => exact fun ds l h => gd_tup h (Nat.le_of_eq l) (by decide)))))
/-- from a quiet law def: it answers true, the pot is further -/
def spRt (Pj : Addr) : Sp := fun vs H Q _ => ∃ p n, vs = [.ref p] ∧ PotAt H p n ∧ n ≤ 800 ∧ Tabs (TT Pj) H ∧ ∀ H', Sta Pj p H H' (n + 300) → Q (.bl true) H'
section
variable {P : Program} {w : World} {K : PySem.W.Frag} {mg : Str → Option Value} {base : Heap} {a : Ad} {Pj : Addr}
theorem ok__law_right {fd : FuncData} (F : Fun K "_law_right" "_law_right" s__law_right a._law_right fd) (T : Txt K mg a)
    {fd_Land___contains__ : FuncData} (G_Land___contains__ : FnOk P w K mg base CX0 3 a.Land___contains__ fd_Land___contains__ ["self", "value"] (spLdC K a)) (b_Land___contains__ : Binds K fd_Land___contains__ ["self", "value"] [])
    {fd__law_is_judged : FuncData} (G__law_is_judged : Fn P w K mg base CX0 14 a._law_is_judged fd__law_is_judged ["_law_value"] (spJud Pj)) (b__law_is_judged : Binds K fd__law_is_judged ["_law_value"] [])
    {fd_Ratio___init__ : FuncData} (G_Ratio___init__ : FnOk P w K mg base CX0 2 a.Ratio___init__ fd_Ratio___init__ ["self", "number", "under"] (spInit K a.Ratio)) (b_Ratio___init__ : Binds K fd_Ratio___init__ ["self", "number", "under"] [])
    {ds_Ratio___init__ : List Value} (d_Ratio___init__ : Vals [.int 1] ds_Ratio___init__ ∧ Binds K fd_Ratio___init__ ["self", "number", "under"] ds_Ratio___init__)
    {fd__law_bent : FuncData} (G__law_bent : Fn P w K mg base CX0 6 a._law_bent fd__law_bent ["_law_pot_here", "_law_value"] (spBent 3)) (b__law_bent : Binds K fd__law_bent ["_law_pot_here", "_law_value"] [])
    {fd__law_odd : FuncData} (G__law_odd : Fn P w K mg base CX0 3 a._law_odd fd__law_odd ["_law_pot_here"] spOdd0) (b__law_odd : Binds K fd__law_odd ["_law_pot_here"] [])
    {fd_Land___eq__ : FuncData} (G_Land___eq__ : FnOk P w K mg base CX0 1 a.Land___eq__ fd_Land___eq__ ["self", "other"] (spLdE K a)) (b_Land___eq__ : Binds K fd_Land___eq__ ["self", "other"] [])
    {fd_Land___init__ : FuncData} (G_Land___init__ : FnOk P w K mg base (L2.CX P w) 8 a.Land___init__ fd_Land___init__ ["self", "corners"] (spLdI K a)) (b_Land___init__ : Binds K fd_Land___init__ ["self", "corners"] [])
    {fd__law_drawn_spot : FuncData} (G__law_drawn_spot : Fn P w K mg base CX0 4 a._law_drawn_spot fd__law_drawn_spot ["_law_pot_here", "_law_marks_here"] spDrawn) (b__law_drawn_spot : Binds K fd__law_drawn_spot ["_law_pot_here", "_law_marks_here"] [])
    {fd__law_edge_dots : FuncData} (G__law_edge_dots : Fn P w K mg base CX0 2 a._law_edge_dots fd__law_edge_dots ["_law_corners_here"] spEdgeDots) (b__law_edge_dots : Binds K fd__law_edge_dots ["_law_corners_here"] [])
    {fd__law_made_point : FuncData} (G__law_made_point : Fn P w K mg base CX0 8 a._law_made_point fd__law_made_point ["_law_dot"] (spMp a.Ratio a.Point)) (b__law_made_point : Binds K fd__law_made_point ["_law_dot"] [])
    {fd__law_is_within : FuncData} (G__law_is_within : Fn P w K mg base CX0 2 a._law_is_within fd__law_is_within ["_law_corners_here", "_law_dot"] spWithin) (b__law_is_within : Binds K fd__law_is_within ["_law_corners_here", "_law_dot"] [])
    {fd_Line___eq__ : FuncData} (G_Line___eq__ : FnOk P w K mg base CX0 5 a.Line___eq__ fd_Line___eq__ ["self", "other"] (spLEq K a.Ratio a.Point a.Line)) (b_Line___eq__ : Binds K fd_Line___eq__ ["self", "other"] [])
    {fd__law_edges : FuncData} (G__law_edges : Fn P w K mg base CX0 1 a._law_edges fd__law_edges ["_law_corners_here"] spEdges) (b__law_edges : Binds K fd__law_edges ["_law_corners_here"] [])
    {fd_Line___init__ : FuncData} (G_Line___init__ : FnOk P w K mg base CX0 6 a.Line___init__ fd_Line___init__ ["self", "one", "other"] (spLInit K a.Ratio a.Point a.Line)) (b_Line___init__ : Binds K fd_Line___init__ ["self", "one", "other"] [])
    {fd_Point___init__ : FuncData} (G_Point___init__ : FnOk P w K mg base CX0 6 a.Point___init__ fd_Point___init__ ["self", "x", "y"] (spPInit a.Ratio a.Point)) (b_Point___init__ : Binds K fd_Point___init__ ["self", "x", "y"] [])
    {fd__law_take : FuncData} (G__law_take : Fn P w K mg base CX0 1 a._law_take fd__law_take ["_law_pot_here", "_law_upto"] spTake) (b__law_take : Binds K fd__law_take ["_law_pot_here", "_law_upto"] [])
    {fd__law_corners : FuncData} (G__law_corners : Fn P w K mg base CX0 4 a._law_corners fd__law_corners ["_law_pot_here", "_law_marks_here"] spCorners) (b__law_corners : Binds K fd__law_corners ["_law_pot_here", "_law_marks_here"] [])
    {fd__law_marks : FuncData} (G__law_marks : Fn P w K mg base CX0 3 a._law_marks fd__law_marks ["_law_pot_here", "_law_most"] spMarks) (b__law_marks : Binds K fd__law_marks ["_law_pot_here", "_law_most"] []) :
    Fn P w K mg base CX0 16 a._law_right fd ["_law_pot_here"] (spRt Pj) := by
  refine ok F sc__law_right (fun vs H Q E h => ?len) (fun cdv A outer s H vs Q E hq hr h => ⟨_,
      (Evl.pss_cut (ps_set (i := 1) sc__law_right.nd rfl (Or.inr rfl) (pe_fn G__law_marks hq (hr.mono (by omega)) (by rfl) T.g__law_marks T.k__law_marks b__law_marks .nil pass0 (pa_cons (pv 0) (pa_cons pe_int pa_nil))))
      (Evl.pss_cut (ps_set (i := 2) sc__law_right.nd rfl (Or.inl rfl) (pe_fn G__law_corners hq (hr.mono (by omega)) (by rfl) T.g__law_corners T.k__law_corners b__law_corners .nil pass0 (pa_cons (pv 0) (pa_cons (pv 1) pa_nil))))
      (Evl.pss_cut (ps_asg (pe_tup (pa_cons (pe_make T.m_Land G_Land___init__ (hr.mono (by omega)) (by rfl) T.g_Land b_Land___init__ .nil passF (pa_cons (pv 2) pa_nil)) (pa_cons (pe_fn G__law_take hq (hr.mono (by omega)) (by rfl) T.g__law_take T.k__law_take b__law_take .nil pass0 (pa_cons (pv 0) (pa_cons (pe_callB call_len_seq (by rfl) T.n_len (by decide +kernel) (pa_cons (pv 2) pa_nil)) pa_nil))) pa_nil))) (pg_tup rfl (pgs_cons (pg_name (i := 3) sc__law_right.nd rfl (Or.inr rfl)) (pgs_cons (pg_name (i := 4) sc__law_right.nd rfl (Or.inl rfl)) pgs_nil))))
      (Evl.pss_cut (ps_setLc (i := 5) (own := [("_law_a", 13), ("_law_b", 14), ("_law_c", 15), ("_law_d", 16)]) (g := (gTup K 2 (gCons (gTup K 2 (gCons (gName 13) (gCons (gName 14) gNil))) (gCons (gTup K 2 (gCons (gName 15) (gCons (gName 16) gNil))) gNil)))) (tt := tYes) rfl sc__law_right.nd rfl rfl (sw_true rfl rfl rfl (by decide +kernel)) (pi_list (pe_fn G__law_edges hq (hr.mono (by omega)) (by rfl) T.g__law_edges T.k__law_edges b__law_edges .nil pass0 (pa_cons (pv 2) pa_nil))) (blkOk_by (own := [("_law_a", 13), ("_law_b", 14), ("_law_c", 15), ("_law_d", 16)]) (N := ["_law_pot_here", "_law_marks_here", "_law_corners_here", "_law_field", "_law_at", "_law_lines_here", "_law_dot", "_law_around", "_law_lesser", "_law_some_here", "_law_turn", "_law_star", "_law_odd_here", "_law_a", "_law_b", "_law_c", "_law_d", "_law_one", "_law_other", "_law_value"]) (sc := defScope s__law_right) (by decide +kernel)) (fun _ _ _ _ _ => (pg_tup rfl (pgs_cons (pg_tup rfl (pgs_cons (pg_name (i := 13) sc__law_right.nd rfl (Or.inl rfl) (hf := Or.inr rfl)) (pgs_cons (pg_name (i := 14) sc__law_right.nd rfl (Or.inl rfl) (hf := Or.inr rfl)) pgs_nil))) (pgs_cons (pg_tup rfl (pgs_cons (pg_name (i := 15) sc__law_right.nd rfl (Or.inl rfl) (hf := Or.inr rfl)) (pgs_cons (pg_name (i := 16) sc__law_right.nd rfl (Or.inl rfl) (hf := Or.inr rfl)) pgs_nil))) pgs_nil)))) (fun _ _ _ _ _ => pts_nil) (fun _ _ _ _ _ => (pe_make T.m_Line G_Line___init__ (hr.mono (by omega)) (by rfl) T.g_Line b_Line___init__ .nil pass0 (pa_cons (pe_make T.m_Point G_Point___init__ (hr.mono (by omega)) (by rfl) T.g_Point b_Point___init__ .nil pass0 (pa_cons (pv 13) (pa_cons (pv 14) pa_nil))) (pa_cons (pe_make T.m_Point G_Point___init__ (hr.mono (by omega)) (by rfl) T.g_Point b_Point___init__ .nil pass0 (pa_cons (pv 15) (pa_cons (pv 16) pa_nil))) pa_nil)))))
      (Evl.pss_cut (ps_if (PW.pt (pw_or (pt_cmpR op_ne (pe_callB (call_reprD hq hr.units) (by rfl) T.n_repr (by decide +kernel) (pa_cons (pe_fld (pv 3) rfl) pa_nil)) (pe_callB (call_reprD hq hr.units) (by rfl) T.n_repr (by decide +kernel) (pa_cons (pv 2) pa_nil)) (nomark _)) (pw_or (pt_cmpR op_ne (pe_callB call_len_seq (by rfl) T.n_len (by decide +kernel) (pa_cons (pe_fld (pv 3) rfl) pa_nil)) (pe_callB call_len_seq (by rfl) T.n_len (by decide +kernel) (pa_cons (pv 5) pa_nil)) (nomark _)) (pw_or1 (pt_not (pt_val (pe_callB call_isi (by rfl) T.n_isinstance (by decide +kernel) (pa_cons (pe_fld (pv 3) rfl) (pa_cons (pe_bltn (v := .ty "tuple") (u := .type "tuple") (by rfl) T.n_tuple (by decide +kernel) rfl) pa_nil))))))))) (pss_one (ps_ret pe_bl)) pss_nil)
      (Evl.pss_cut (ps_if (pt_not (pt_val (pe_callB (cr_all rfl) (by rfl) T.n_all (by decide +kernel) (pa_cons (pe_lc (own := [("_law_one", 17), ("_law_other", 18)]) (g := (gTup K 2 (gCons (gName 17) (gCons (gName 18) gNil)))) (tt := tYes) rfl sc__law_right.nd (pi_zipM (by rfl) T.n_zip (pa_cons (pe_fld (pv 3) rfl) (pa_cons (pv 5) pa_nil))) (blkOk_by (own := [("_law_one", 17), ("_law_other", 18)]) (N := ["_law_pot_here", "_law_marks_here", "_law_corners_here", "_law_field", "_law_at", "_law_lines_here", "_law_dot", "_law_around", "_law_lesser", "_law_some_here", "_law_turn", "_law_star", "_law_odd_here", "_law_a", "_law_b", "_law_c", "_law_d", "_law_one", "_law_other", "_law_value"]) (sc := defScope s__law_right) (by decide +kernel)) (fun _ _ _ _ _ => (pg_tup rfl (pgs_cons (pg_name (i := 17) sc__law_right.nd rfl (Or.inl rfl) (hf := Or.inr rfl)) (pgs_cons (pg_name (i := 18) sc__law_right.nd rfl (Or.inl rfl) (hf := Or.inr rfl)) pgs_nil)))) (fun _ _ _ _ _ => pts_nil) (fun _ _ _ _ _ => (pe_cmpR (show OpR _ _ (rEqK a.Line K (spLEq K a.Ratio a.Point a.Line) E0) from op_eqK T.eqL (fnR G_Line___eq__ b_Line___eq__) (hr.mono (by omega)) pass0) (pv 17) (pv 18) (nomark _)))) pa_nil)))) (pss_one (ps_ret pe_bl)) pss_nil)
      (Evl.pss_cut (ps_for PassesOwn.never rfl (pi_list (pe_op op_cat (pe_lc (own := [("_law_turn", 10)]) (g := gName 10) (tt := tYes) rfl sc__law_right.nd (pi_range1 (by rfl) T.n_range (pa_cons pe_int pa_nil)) (blkOk_by (own := [("_law_turn", 10)]) (N := ["_law_pot_here", "_law_marks_here", "_law_corners_here", "_law_field", "_law_at", "_law_lines_here", "_law_dot", "_law_around", "_law_lesser", "_law_some_here", "_law_turn", "_law_star", "_law_odd_here", "_law_a", "_law_b", "_law_c", "_law_d", "_law_one", "_law_other", "_law_value"]) (sc := defScope s__law_right) (by decide +kernel)) (fun _ _ _ _ _ => (pg_name (i := 10) sc__law_right.nd rfl (Or.inl rfl))) (fun _ _ _ _ _ => pts_nil) (fun _ _ _ _ _ => (pe_fn G__law_drawn_spot hq (hr.mono (by omega)) (by rfl) T.g__law_drawn_spot T.k__law_drawn_spot b__law_drawn_spot .nil pass0 (pa_cons (pv 0) (pa_cons (pv 1) pa_nil))))) (pe_fn G__law_edge_dots hq (hr.mono (by omega)) (by rfl) T.g__law_edge_dots T.k__law_edge_dots b__law_edge_dots .nil pass0 (pa_cons (pv 2) pa_nil)))) (pg_name (i := 6) sc__law_right.nd rfl (Or.inl rfl)) (pss_one (ps_if (pt_cmpR op_ne (pe_cmpR (show OpR _ _ (rInK a.Land (spLdC K a) E0) from op_inK T.conA T.conF (fnR G_Land___contains__ b_Land___contains__) (hr.mono (by omega)) pass0) (pe_fn G__law_made_point hq (hr.mono (by omega)) (by rfl) T.g__law_made_point T.k__law_made_point b__law_made_point .nil pass0 (pa_cons (pv 6) pa_nil)) (pv 3) (by with_unfolding_all rfl)) (pe_fn G__law_is_within hq (hr.mono (by omega)) (by rfl) T.g__law_is_within T.k__law_is_within b__law_is_within .nil pass0 (pa_cons (pv 2) (pa_cons (pv 6) pa_nil))) (nomark _)) (pss_one (ps_ret pe_bl)) pss_nil)))
      (Evl.pss_cut (ps_if (PW.pt (pw_or (pt_not (pt_cmpR (op_eqK T.eqD (fnR G_Land___eq__ b_Land___eq__) (hr.mono (by omega)) pass0) (pe_make T.m_Land G_Land___init__ (hr.mono (by omega)) (by rfl) T.g_Land b_Land___init__ .nil passF (pa_cons (pv 2) pa_nil)) (pv 3) (nomark _))) (pw_or1 (pt_cmpR (op_eqK T.eqD (fnR G_Land___eq__ b_Land___eq__) (hr.mono (by omega)) pass0) (pv 3) pe_str (nomark _))))) (pss_one (ps_ret pe_bl)) pss_nil)
      (Evl.pss_cut (ps_set (i := 7) sc__law_right.nd rfl (Or.inl rfl) (pe_make T.m_Land G_Land___init__ (hr.mono (by omega)) (by rfl) T.g_Land b_Land___init__ .nil passF (pa_cons (pe_op op_catA (pe_slice sl_tupA (pv 2) (po_some (pv 4)) po_none) (pe_slice sl_tupA (pv 2) po_none (po_some (pv 4)))) pa_nil)))
      (Evl.pss_cut (ps_set (i := 8) sc__law_right.nd rfl (Or.inl rfl) (pe_make T.m_Land G_Land___init__ (hr.mono (by omega)) (by rfl) T.g_Land b_Land___init__ .nil passF (pa_cons (pe_slice sl_tupA (pv 2) po_none (po_some pe_int)) pa_nil)))
      (Evl.pss_cut (ps_if (PW.pt (pw_or (pt_cmpR op_ne (pe_cmpR (op_eqK T.eqD (fnR G_Land___eq__ b_Land___eq__) (hr.mono (by omega)) pass0) (pv 7) (pv 3) (nomark _)) (pe_cmpR op_eq (pv 4) pe_int (nomark _)) (nomark _)) (pw_or (pt_cmpR op_ne (pe_cmpR (op_eqK T.eqD (fnR G_Land___eq__ b_Land___eq__) (hr.mono (by omega)) pass0) (pv 8) (pv 3) (nomark _)) (pe_cmpR op_eq (pe_callB call_len_seq (by rfl) T.n_len (by decide +kernel) (pa_cons (pv 2) pa_nil)) pe_int (nomark _)) (nomark _)) (pw_or1 (pt_cmpR (op_eqK T.eqD (fnR G_Land___eq__ b_Land___eq__) (hr.mono (by omega)) pass0) (pv 3) (pv 2) (nomark _)))))) (pss_one (ps_ret pe_bl)) pss_nil)
      (Evl.pss_cut (ps_set (i := 9) sc__law_right.nd rfl (Or.inl rfl) (pe_lstS (pa_cons (pe_revT (pv 2)) (pa_cons (pe_op op_catA (pv 2) (pe_slice sl_tupA (pv 2) po_none (po_some pe_int))) (pa_cons (pe_slice sl_tupA (pv 2) po_none (po_some pe_int)) (pa_cons (pe_callTy call_listT (by rfl) T.n_list (by decide +kernel) (pa_cons (pv 2) pa_nil)) (pa_cons (pe_tup pa_nil) (pa_cons (pe_op op_repT (pv 2) pe_int) (pa_cons (pe_fn G__law_odd hq (hr.mono (by omega)) (by rfl) T.g__law_odd T.k__law_odd b__law_odd .nil pass0 (pa_cons (pv 0) pa_nil)) pa_nil)))))))))
      (Evl.pss_cut (ps_for PassesOwn.never rfl (pi_range1 (by rfl) T.n_range (pa_cons pe_int pa_nil)) (pg_name (i := 10) sc__law_right.nd rfl (Or.inl rfl)) (pss_one (ps_expr (pe_bm PySem.F.plainAttrs_list PySem.F.slot_list_append PySem.F.type_list_append mt_append (pv 9) (pa_cons (pe_fn G__law_bent hq (hr.mono (by omega)) (by rfl) T.g__law_bent T.k__law_bent b__law_bent .nil pass0 (pa_cons (pv 0) (pa_cons (pv 2) pa_nil))) pa_nil)))))
      (Evl.pss_cut (ps_set (i := 9) sc__law_right.nd rfl (Or.inl rfl) (pe_op op_cat (pv 9) (pe_lstS (pa_cons (pe_tup (pa_cons (pe_tup (pa_cons pe_int (pa_cons pe_int pa_nil))) (pa_cons (pe_tup (pa_cons pe_int (pa_cons pe_int pa_nil))) (pa_cons (pe_tup (pa_cons pe_int (pa_cons pe_int pa_nil))) (pa_cons (pe_tup (pa_cons pe_int (pa_cons pe_int pa_nil))) pa_nil))))) (pa_cons (pe_tup (pa_cons (pe_tup (pa_cons pe_int (pa_cons pe_int pa_nil))) (pa_cons (pe_tup (pa_cons pe_int (pa_cons pe_int pa_nil))) (pa_cons (pe_tup (pa_cons pe_int (pa_cons pe_int pa_nil))) (pa_cons (pe_tup (pa_cons pe_int (pa_cons pe_int pa_nil))) pa_nil))))) pa_nil)))))
      (Evl.pss_cut (ps_expr (pe_bm PySem.F.plainAttrs_list PySem.F.slot_list_append PySem.F.type_list_append mt_append (pv 9) (pa_cons (pe_tup (pa_cons (pe_tup (pa_cons (pe_un un_neg pe_int) (pa_cons (pe_un un_neg pe_int) pa_nil))) (pa_cons (pe_tup (pa_cons pe_int (pa_cons (pe_un un_neg pe_int) pa_nil))) (pa_cons (pe_tup (pa_cons pe_int (pa_cons pe_int pa_nil))) pa_nil)))) pa_nil)))
      (Evl.pss_cut (ps_set (i := 9) sc__law_right.nd rfl (Or.inl rfl) (pe_op op_cat (pv 9) (pe_lstS (pa_cons (pe_tup (pa_cons (pe_tup (pa_cons pe_int (pa_cons pe_int pa_nil))) (pa_cons (pe_tup (pa_cons pe_int (pa_cons pe_int pa_nil))) (pa_cons (pe_tup (pa_cons pe_int (pa_cons pe_int pa_nil))) (pa_cons (pe_tup (pa_cons pe_int (pa_cons pe_int pa_nil))) pa_nil))))) (pa_cons (pe_tup (pa_cons (pe_tup (pa_cons pe_int (pa_cons pe_int pa_nil))) (pa_cons (pe_tup (pa_cons pe_int (pa_cons pe_int pa_nil))) (pa_cons (pe_tup (pa_cons pe_int (pa_cons pe_int pa_nil))) pa_nil)))) (pa_cons (pe_tup (pa_cons (pe_tup (pa_cons pe_int (pa_cons pe_int pa_nil))) (pa_cons (pe_tup (pa_cons pe_bl (pa_cons pe_int pa_nil))) (pa_cons (pe_tup (pa_cons pe_int (pa_cons pe_int pa_nil))) pa_nil)))) pa_nil))))))
      (Evl.pss_cut (ps_set (i := 11) sc__law_right.nd rfl (Or.inl rfl) (pe_tup (pa_cons (pe_tup (pa_cons pe_int (pa_cons pe_int pa_nil))) (pa_cons (pe_tup (pa_cons (pe_un un_neg pe_int) (pa_cons (pe_un un_neg pe_int) pa_nil))) (pa_cons (pe_tup (pa_cons pe_int (pa_cons pe_int pa_nil))) (pa_cons (pe_tup (pa_cons (pe_un un_neg pe_int) (pa_cons pe_int pa_nil))) (pa_cons (pe_tup (pa_cons pe_int (pa_cons (pe_un un_neg pe_int) pa_nil))) pa_nil)))))))
      (Evl.pss_cut (ps_set (i := 12) sc__law_right.nd rfl (Or.inl rfl) (pe_lstS (pa_cons (pv 2) (pa_cons pe_int (pa_cons pe_non (pa_cons (pe_ix ix_tup (pv 2) pe_int (fun _ _ => rfl)) (pa_cons pe_str (pa_cons (pe_tup (pa_cons (pe_make T.m_Ratio G_Ratio___init__ (hr.mono (by omega)) (by rfl) T.g_Ratio d_Ratio___init__.2 d_Ratio___init__.1 pass0 (pa_cons pe_int pa_nil)) (pa_cons (pe_make T.m_Ratio G_Ratio___init__ (hr.mono (by omega)) (by rfl) T.g_Ratio d_Ratio___init__.2 d_Ratio___init__.1 pass0 (pa_cons pe_int pa_nil)) pa_nil))) (pa_cons (pv 3) pa_nil)))))))))
      (pss_one (ps_ret (pe_and (pe_callB (cr_all rfl) (by rfl) T.n_all (by decide +kernel) (pa_cons (pe_lc (own := [("_law_value", 19)]) (g := gName 19) (tt := tYes) rfl sc__law_right.nd (pi_list (pe_op op_cat (pv 9) (pe_lstS (pa_cons (pv 11) pa_nil)))) (blkOk_by (own := [("_law_value", 19)]) (N := ["_law_pot_here", "_law_marks_here", "_law_corners_here", "_law_field", "_law_at", "_law_lines_here", "_law_dot", "_law_around", "_law_lesser", "_law_some_here", "_law_turn", "_law_star", "_law_odd_here", "_law_a", "_law_b", "_law_c", "_law_d", "_law_one", "_law_other", "_law_value"]) (sc := defScope s__law_right) (by decide +kernel)) (fun _ _ _ _ _ => (pg_name (i := 19) sc__law_right.nd rfl (Or.inl rfl))) (fun _ _ _ _ _ => pts_nil) (fun _ _ _ _ _ => (pe_fn G__law_is_judged hq (hr.mono (by omega)) (by rfl) T.g__law_is_judged T.k__law_is_judged b__law_is_judged .nil pass0 (pa_cons (pv 19) pa_nil)))) pa_nil)) (pe_one (pe_not (pe_callB (cr_any rfl) (by rfl) T.n_any (by decide +kernel) (pa_cons (pe_lc (own := [("_law_one", 17)]) (g := gName 17) (tt := tYes) rfl sc__law_right.nd (pi_list (pv 12)) (blkOk_by (own := [("_law_one", 17)]) (N := ["_law_pot_here", "_law_marks_here", "_law_corners_here", "_law_field", "_law_at", "_law_lines_here", "_law_dot", "_law_around", "_law_lesser", "_law_some_here", "_law_turn", "_law_star", "_law_odd_here", "_law_a", "_law_b", "_law_c", "_law_d", "_law_one", "_law_other", "_law_value"]) (sc := defScope s__law_right) (by decide +kernel)) (fun _ _ _ _ _ => (pg_name (i := 17) sc__law_right.nd rfl (Or.inl rfl))) (fun _ _ _ _ _ => pts_nil) (fun _ _ _ _ _ => (pe_cmpR (show OpR _ _ (rInK a.Land (spLdC K a) E0) from op_inK T.conA T.conF (fnR G_Land___contains__ b_Land___contains__) (hr.mono (by omega)) pass0) (pv 17) (pv 3) (by with_unfolding_all rfl)))) pa_nil))))))))))))))))))))))))), ?body⟩)
  case len => obtain ⟨p, n, rfl, _⟩ := h; rfl
  case body =>
    obtain ⟨p, n, rfl, pot, hn, tabs, q⟩ := h
    have hsz := sizeLine_eq
    have st0 : Sta Pj p H H n := ⟨Kp.refl _ _, tabs, pot⟩
    clear tabs pot
    refine ⟨fun σ' H' => ∃ m ms mm, σ' = rS p (some (.ref m)) none none none none none none none none none none none ∧ ms.length = 3 ∧ Mf p H' m ms mm ∧ Sta Pj p H H' (n + 130), ?c1, ?d1⟩
    case c1 =>
      exact ⟨_, rfl, p, n, rfl, st0.pt, by omega, fun m ms mm H' g hm nm mk l3 _ => ⟨m, ms, mm, rfl, l3, .of g.pot hm nm mk, st0.go g⟩⟩
    case d1 =>
    rintro σ' H1 ⟨m, ms, mm, rfl, l3, mf, st⟩
    refine ⟨fun σ' H' => ∃ c us ps, σ' = rS p (some (.ref m)) (some (.ref c)) none none none none none none none none none none ∧ Mf p H' m ms mm ∧ Cf p H' c us ps ∧ Cvx ps ∧ (∀ x ∈ ps, Nr x) ∧ 3 ≤ ps.length ∧ ps.length ≤ 8 ∧ Sta Pj p H H' (n + 160), ?c2, ?d2⟩
    case c2 =>
      have hm := vw_some mf.1
      refine ⟨_, rfl, _, rfl, p, m, n + 130, ms, mm, rfl, st.pt, by omega, hm.2.1, hm.1, mf.2.same (vw_le _ _), l3, fun t us ps H' g ht hp cv nr h3 h8 => ?_⟩
      have hl := hp.length
      exact ⟨t, us, ps, rfl, mf.kp (Kp.go g), .of g.pot ht hp, cv, nr, by omega, by omega, st.go g⟩
    case d2 =>
    clear mf st
    rintro σ' H2 ⟨c, us, ps, rfl, mf, cf, cv, nr, h3, h8, st⟩
    have hul : us.length = ps.length := cf.pls.length
    have hld := land_pl h3 h8 nr cv
    have hne : ps ≠ [] := fun e => by rw [e] at h3; exact absurd h3 (by decide)
    refine ⟨fun σ' H' => ∃ z k, σ' = rS p (some (.ref m)) (some (.ref c)) (some z) (some (.int (k : Nat))) none none none none none none none none ∧ Mf p H' m ms mm ∧ Cf p H' c us ps ∧ Lf a p H' z (.ref c) ps ∧ k < ps.length ∧ Sta Pj p H H' (n + 161), ?c3, ?d3⟩
    case c3 =>
      have hda : Da H2 (.ref c) (.tuple (ps.map plD)) := .tup cf.tup (pls_da cf.pls)
      refine ⟨_, rfl, ?_⟩
      intro x dx c1 c2 c3
      refine mk_ld hda c1 c2 (fun ps' e H3 S3 l => ⟨rfl, ?_⟩) (fun e => by rw [hld] at e; cases e)
      rw [hld] at e
      cases e
      have st3 := st.same S3
      have cf3 := cf.kp (Kp.same S3)
      have lf3 := Lf.of st3.pt l hne
      refine ⟨_, rfl, _, rfl, c, _, rfl, .inr (SqT.of cf3.tup), p, _, n + 160, rfl, st3.pt, by omega, by omega, by omega, fun d H4 d0 d1 g4 => ?_⟩
      have st4 := st3.go g4
      refine ⟨(by show 2 ≤ sizeLine; decide), fun t5 f5 => ⟨t5, _, rfl, SqT.of upd_same, rfl, _, _, rfl, _, _, rfl, rfl, ?_⟩⟩
      have S5 := same_new (o := .tup [.ref x, .int d]) f5
      have k5 := ((Kp.same (p := p) S3).trans (Kp.go g4)).trans (Kp.same S5)
      refine ⟨.ref x, d.toNat, ?_, mf.kp k5, cf.kp k5, lf3.kp ((Kp.go g4).trans (Kp.same S5)), by omega, st4.same S5⟩
      rw [Int.toNat_of_nonneg d0]
      rfl
    case d3 =>
    clear mf cf st
    rintro σ' H3 ⟨z, k, rfl, mf, cf, lf, hk, st⟩
    refine ⟨fun σ' H' => ∃ L ls, σ' = rS p (some (.ref m)) (some (.ref c)) (some z) (some (.int (k : Nat))) (some (.ref L)) none none none none none none none ∧ H' L = some (.lst ls) ∧ Paired (fun u (e : PP × PP) => LnQ a.Ratio a.Point a.Line H' u e.1.1 e.1.2 e.2.1 e.2.2) ls (eds ps) ∧ Mf p H' m ms mm ∧ Cf p H' c us ps ∧ Lf a p H' z (.ref c) ps ∧ Sta Pj p H H' (n + 161), ?c4, ?d4⟩
    case c4 =>
      refine ⟨_, rfl, c, us, ps, rfl, cf.tup, cf.pls, by omega, fun l ws H4 nl S4 hl4 hws => ⟨l, rfl, ⟨_, SqL.of hl4⟩, fun D nD => ?_⟩⟩
      have hwl := hws.length
      rw [eds_len] at hwl
      have st4 := st.same S4
      refine lc_relW walk_list (fun i z H' => ∃ e, (eds ps)[i]? = some e ∧ LnQ a.Ratio a.Point a.Line H' z e.1.1 e.1.2 e.2.1 e.2.2) ?hR nD (fun H' S => S.seq (SqL.of hl4)) (by omega) ?he ?hd
      case hR =>
        rintro i z H5 H6 nl ⟨e, he, h⟩
        exact ⟨e, he, h.nol nl⟩
      case he =>
        rintro i x H5 H6 Q' N hi S ⟨rfl, hx⟩ qy
        obtain ⟨e, he, t', q', r', rfl, f1, f2, f3⟩ := paired_at hws hx
        have f1 := S _ _ f1
        have f2 := S _ _ f2
        have f3 := S _ _ f3
        refine ⟨t', _, rfl, SqT.of f1, rfl, _, _, rfl, q', _, rfl, SqT.of f2, rfl, _, _, rfl, _, _, rfl, rfl, _, _, rfl, r', _, rfl, SqT.of f3, rfl, _, _, rfl, _, _, rfl, rfl, rfl, rfl, yesI ?_⟩
        refine ⟨_, rfl, _, rfl, ?_⟩
        intro y1 dy1 c1 c2 c3
        refine mk_pt (X := ((e.1.1 : Int) : Rat)) (Y := ((e.1.2 : Int) : Rat)) (.inl ⟨rfl, rfl⟩) (.inl ⟨rfl, rfl⟩) c1 c2 c3 fun H7 S7 p7 => ⟨rfl, ?_⟩
        refine ⟨_, rfl, _, rfl, ?_⟩
        intro y2 dy2 c4 c5 c6
        refine mk_pt (X := ((e.2.1 : Int) : Rat)) (Y := ((e.2.2 : Int) : Rat)) (.inl ⟨rfl, rfl⟩) (.inl ⟨rfl, rfl⟩) c4 c5 c6 fun H8 S8 p8 => ⟨rfl, ?_⟩
        intro y3 dy3 c7 c8 c9
        refine mk_ln (p7.same S8) p8 (fun z => goes_ne (cvx_goes (by omega) cv) (by omega) (List.mem_of_getElem? he) (Prod.ext (congrArg Rat.num z.1) (congrArg Rat.num z.2))) c7 c8 fun H9 S9 p9 => ⟨rfl, ?_⟩
        exact qy _ _ ((S7.trans S8).trans S9) ⟨e, he, p9⟩
      case hd =>
        intro ys H5 S5 hD5 hly hys
        have S45 := S4.trans S5
        refine ⟨D, ys, rfl, hD5, paired_of (by rw [eds_len]; omega) fun i v x e1 e2 => ?_, mf.kp (Kp.same S45), cf.kp (Kp.same S45), lf.kp (Kp.same S45), st.same S45⟩
        obtain ⟨e, he, h⟩ := hys i v e1
        rw [he] at e2
        cases e2
        exact h
    case d4 =>
    clear mf cf lf st
    rintro σ' H4 ⟨L, ls, rfl, hL, hls, mf, cf, lf, st⟩
    refine ⟨fun σ' H' => σ' = rS p (some (.ref m)) (some (.ref c)) (some z) (some (.int (k : Nat))) (some (.ref L)) none none none none none none none ∧ H' L = some (.lst ls) ∧ Paired (fun u (e : PP × PP) => LnQ a.Ratio a.Point a.Line H' u e.1.1 e.1.2 e.2.1 e.2.2) ls (eds ps) ∧ Mf p H' m ms mm ∧ Cf p H' c us ps ∧ Lf a p H' z (.ref c) ps ∧ Sta Pj p H H' (n + 161), ?c5, ?d5⟩
    case c5 =>
      obtain ⟨b, dx, te, bl, c0, us0, ws, bs, rfl, hb, ec, hc0, hp0, hte, hws, hbl, hbs⟩ := lf.ld
      have hda : Da H4 (.ref c) (.tuple (ps.map plD)) := .tup cf.tup (pls_da cf.pls)
      refine ⟨_, rfl, b, _, dx, _, _, rfl, hb, T.clD, T.nC, rfl, _, _, 216, 2, rfl, hda, pls_gd h8 nr, ⟨by decide, by decide⟩, ?_⟩
      refine ⟨_, rfl, _, _, 216, 2, rfl, hda, pls_gd h8 nr, ⟨by decide, by decide⟩, rfl, _, rfl, iteNS rfl ?_⟩
      refine ⟨_, rfl, b, _, dx, _, _, rfl, hb, T.clD, T.nE, rfl, te, _, rfl, .inr (SqT.of hte), _, rfl, L, _, rfl, .inl (SqL.of hL), rfl, _, rfl, iteNS (by rw [hws.length, hls.length]) ?_⟩
      refine ⟨_, rfl, b, _, dx, _, _, rfl, hb, T.clD, T.nE, rfl, .ref te, _, _, _, true, rfl, .ty _, .base (.tup hte), kit_ty (by decide +kernel), true, rfl, iteF ?_⟩
      exact ⟨rfl, hL, hls, mf, cf, lf, st⟩
    case d5 =>
    clear mf cf lf st hL hls
    rintro σ' H5 ⟨rfl, hL, hls, mf, cf, lf, st⟩
    refine ⟨fun σ' H' => ∃ s5 : Option V, σ' = rS p (some (.ref m)) (some (.ref c)) (some z) (some (.int (k : Nat))) s5 none none none none none none none ∧ Mf p H' m ms mm ∧ Cf p H' c us ps ∧ Lf a p H' z (.ref c) ps ∧ Sta Pj p H H' (n + 161), ?c6, ?d6⟩
    case c6 =>
      obtain ⟨b, dx, te, bl, c0, us0, ws, bs, rfl, hb, ec, hc0, hp0, hte, hws, hbl, hbs⟩ := lf.ld
      have l1 := hws.length
      have l2 := hls.length
      rw [eds_len] at l1 l2
      refine ⟨_, rfl, b, _, dx, _, _, rfl, hb, T.clD, T.nE, rfl, _, rfl, .tu, .li, te, L, ws, ls, rfl, SqT.of hte, SqL.of hL, fun D nD => ?_⟩
      refine lc_valW (walk_m rfl) (fun _ => .bl true) nD (fun H' S => ⟨SqT.of (S _ _ hte), S.seq (SqL.of hL)⟩) (by omega) ?he ?hd
      case he =>
        rintro i x H6 H7 Q' N hi S ⟨T1, x1, y1, rfl, nT, rfl, hx, hy⟩ qy
        have ST := same_new (o := .tup [x1, y1]) nT
        obtain ⟨e, he, e1⟩ := paired_at hws hx
        obtain ⟨e', he', e2⟩ := paired_at hls hy
        rw [he] at he'
        cases he'
        have e1 := (e1.same S).same ST
        have e2 := (e2.same S).same ST
        refine ⟨T1, _, rfl, SqT.of upd_same, rfl, _, _, rfl, _, _, rfl, rfl, rfl, yesI ?_⟩
        obtain ⟨b1, d1, v1, w1, rfl, h1, _⟩ := id e1
        obtain ⟨b2, d2, v2, w2, rfl, h2, _⟩ := id e2
        refine ⟨_, rfl, _, rfl, b1, d1, _, .ref a.Line, rfl, h1, .ins h2, (by simp [PySem.W.notFirst]), _, _, _, _, _, _, rfl, e1, .inl ⟨_, _, _, _, e2, fun H8 S8 => ?_⟩⟩
        rw [decide_eq_true ⟨⟨rfl, rfl⟩, rfl, rfl⟩]
        exact qy _ (ST.trans S8)
      case hd =>
        intro H6 S6 hD
        refine ⟨D, (List.range (min ws.length ls.length)).map fun _ => true, rfl, SqL.of (by rw [List.map_map]; exact hD), _, rfl, ?_⟩
        rw [show ((List.range (min ws.length ls.length)).map fun _ => true).all id = true from List.all_eq_true.mpr fun b hb => by
          obtain ⟨_, _, rfl⟩ := List.mem_map.mp hb
          rfl]
        exact iteF ⟨_, rfl, mf.kp (Kp.same S6), cf.kp (Kp.same S6), lf.kp (Kp.same S6), st.same S6⟩
    case d6 =>
    clear mf cf lf st hL hls
    rintro σ' H6 ⟨s5, rfl, mf, cf, lf, st⟩
    refine ⟨fun σ' H' => ∃ s6 : Option V, σ' = rS p (some (.ref m)) (some (.ref c)) (some z) (some (.int (k : Nat))) s5 s6 none none none none none none ∧ Mf p H' m ms mm ∧ Cf p H' c us ps ∧ Lf a p H' z (.ref c) ps ∧ Sta Pj p H H' (n + 210), ?c7, ?d7⟩
    case c7 =>
      have hm := vw_some mf.1
      have mk6 := mf.2.same (vw_le _ _)
      refine ⟨9, rfl, by decide, by decide, fun D hD => ?_⟩
      have nD : D ≠ p := st.pt.new hD
      refine lc_it (n := 9) walk_range (fun i H' => ∃ vs, H' D = some (.lst vs) ∧ vs.length = i ∧ (∀ u ∈ vs, ∃ x y d, Dot H' u 60 x y d) ∧ Go p (n + 161 + 5 * i) H6 H') ⟨[], upd_same, rfl, (fun _ h => nomatch h), ⟨mask_mono (same_new hD), st.pt.same (same_new hD)⟩⟩ (fun _ _ _ _ => trivial) ?turn ?fin
      case turn =>
        rintro i v H' H'' hi ⟨vs, hd', ll, lo, g'⟩ ⟨rfl, rfl⟩
        refine ⟨rfl, _, rfl, _, rfl, p, m, n + 161 + 5 * i, ms, mm, rfl, g'.pot, by omega, g'.at hm.2.1 hm.1, hm.1, mk6.go st.pt g', l3, fun u x y d H3 g3 hu => ?_⟩
        have hd3 := g3.at hd' nD
        refine ⟨vs, hd3, by omega, vs ++ [u], upd_same, by rw [List.length_append, ll]; rfl, fun w hw => ?_, ?_⟩
        · rcases List.mem_append.mp hw with h | h
          · obtain ⟨x', y', d', h⟩ := lo w h
            exact ⟨x', y', d', (h.go g'.pot g3).over hd3⟩
          · rw [List.mem_singleton.mp h]
            exact ⟨x, y, d, hu.over hd3⟩
        · exact ((Go.trans g' g3).over hD nD).mono (by omega)
      case fin =>
        rintro H7 ⟨vs, hD7, ll, lo, g7⟩
        have st7 := st.go g7
        have cf7 := cf.kp (Kp.go g7)
        refine ⟨_, rfl, c, us, ps, rfl, cf7.tup, cf7.pls, nr, by omega, fun l ws H8 nl S8 hl8 hws lw => ?_⟩
        refine ⟨D, l, vs, ws, rfl, rfl, S8 _ _ hD7, hl8, by omega, fun q nq => ?_⟩
        have Sq := same_new (o := .lst (vs ++ ws)) nq
        have st9 := (st7.same S8).same Sq
        have k9 := (Kp.go g7).trans (Kp.same (S8.trans Sq))
        have lo9 : ∀ u ∈ vs ++ ws, ∃ x y d, Dot (upd H8 q (.lst (vs ++ ws))) u 60 x y d := fun u hu => by
          rcases List.mem_append.mp hu with h | h
          · obtain ⟨x, y, d, h⟩ := lo u h
            exact ⟨x, y, d, (h.same S8).same Sq⟩
          · obtain ⟨x, y, d, h⟩ := hws u h
            exact ⟨x, y, d, h.same Sq⟩
        have mf9 := mf.kp k9
        have cf9 := cf.kp k9
        have lf9 := lf.kp k9
        have hq : upd H8 q (.lst (vs ++ ws)) q = some (.lst (vs ++ ws)) := upd_same
        generalize upd H8 q (.lst (vs ++ ws)) = H9 at st9 lo9 mf9 cf9 lf9 hq
        refine ⟨q, rfl, ⟨_, SqL.of hq⟩, for_it walk_list (fun i σ H' => Same H9 H' ∧ ∃ s6 : Option V, σ = rS p (some (.ref m)) (some (.ref c)) (some z) (some (.int (k : Nat))) s5 s6 none none none none none none) ⟨Same.refl _, _, rfl⟩ (fun i σ H' _ h => h.1.seq (SqL.of hq)) ?turn2 ?fin2⟩
        case turn2 =>
          rintro i x σ H10' H10 hi ⟨S10, s6, rfl⟩ ⟨rfl, hx⟩
          obtain ⟨X, Y, d, hd⟩ := lo9 x (List.mem_of_getElem? hx)
          have hd := hd.same S10
          have cf10 := cf9.kp (Kp.same S10)
          have lf10 := (lf9.kp (Kp.same S10)).ld
          obtain ⟨b, dx, te, bl, c0, us0, ws0, bs, rfl, hb, _⟩ := id lf10
          have dn : d ≠ 0 := by have := hd.2.1; omega
          obtain ⟨i1, i2⟩ := div_ib dn hd.2.2.1 hd.2.2.2.2
          obtain ⟨i3, i4⟩ := div_ib dn hd.2.2.2.1 hd.2.2.2.2
          refine ⟨_, rfl, x, 60, X, Y, d, rfl, hd, by omega, fun z1 H11 S11 p1 => ?_⟩
          refine ⟨_, rfl, b, dx, _, rfl, S11 _ _ hb, .ref b, _, z1, ps, rfl, lf10.same S11, nr, h8, .inl ⟨_, _, 60, p1, i1, i3, i2, i4, by omega, fun H12 S12 => ⟨_, rfl, ?_⟩⟩⟩
          have S02 := S11.trans S12
          refine ⟨_, rfl, _, rfl, c, us, ps, x, X, Y, d, 60, rfl, S02 _ _ cf10.tup, Paired.mapP cf10.pls (fun _ _ e => Pt.same S02 e), nr, by omega, hd.same S02, by omega, fun H13 S13 => ?_⟩
          rw [in_with hd.2.1]
          refine ⟨rfl, _, rfl, iteNS rfl ?_⟩
          exact ⟨(S10.trans S02).trans S13, _, rfl⟩
        case fin2 =>
          rintro σ H10 ⟨S10, s6, rfl⟩
          exact ⟨s6, rfl, mf9.kp (Kp.same S10), cf9.kp (Kp.same S10), lf9.kp (Kp.same S10), (st9.same S10).mono (by omega)⟩
    case d7 =>
    clear mf cf lf st
    rintro σ' H7 ⟨s6, rfl, mf, cf, lf, st⟩
    have nfL : PySem.W.notFirst K a.Land (.ref a.Land) = true := by simp [PySem.W.notFirst]
    refine ⟨fun σ' H' => σ' = rS p (some (.ref m)) (some (.ref c)) (some z) (some (.int (k : Nat))) s5 s6 none none none none none none ∧ Mf p H' m ms mm ∧ Cf p H' c us ps ∧ Lf a p H' z (.ref c) ps ∧ Sta Pj p H H' (n + 210), ?c8, ?d8⟩
    case c8 =>
      have hda : Da H7 (.ref c) (.tuple (ps.map plD)) := .tup cf.tup (pls_da cf.pls)
      refine ⟨_, rfl, ?_⟩
      intro x dx c1 c2 c3
      refine mk_ld hda c1 c2 (fun ps' e H8 S8 l => ⟨rfl, ?_⟩) (fun e => by rw [hld] at e; cases e)
      rw [hld] at e
      cases e
      have k8 := Kp.same (p := p) S8
      have lf8 := (lf.kp k8).ld
      obtain ⟨b1, dx1, _, _, _, _, _, _, e1, hb1, _⟩ := id l
      cases e1
      obtain ⟨b, dxb, te, bl, c0, us0, ws0, bs, rfl, hb, _⟩ := id lf8
      refine ⟨_, rfl, x, dx1, _, .ref a.Land, rfl, hb1, .ins hb, nfL, .ref x, _, .ref b, ps, rfl, l, .inl ⟨_, ps, lf8, ?_⟩⟩
      rw [decide_eq_true rfl]
      refine ⟨_, rfl, iteF ?_⟩
      refine ⟨_, rfl, b, dxb, _, .type "str", rfl, hb, .str _, T.eqD.nf "str" rfl, .ref b, _, _, ps, rfl, lf8, .inr ⟨⟨_, .base (.str _), T.riD.kt _ (by simp)⟩, ?_⟩⟩
      refine ⟨_, rfl, iteF ?_⟩
      exact ⟨rfl, mf.kp k8, cf.kp k8, lf.kp k8, st.same S8⟩
    case d8 =>
    clear mf cf lf st
    rintro σ' H8 ⟨rfl, mf, cf, lf, st⟩
    have hrl : (ps.drop k ++ ps.take k).length = ps.length := by rw [List.length_append, List.length_drop, List.length_take]; omega
    have nrr : ∀ x ∈ ps.drop k ++ ps.take k, Nr x := fun x hx => by
      rcases List.mem_append.mp hx with h | h
      · exact nr x (List.mem_of_mem_drop h)
      · exact nr x (List.mem_of_mem_take h)
    have cvr : Cvx (ps.drop k ++ ps.take k) := cvx_rot _ _ (by rw [List.take_append_drop]; exact cv)
    have hldr := land_pl (ps := ps.drop k ++ ps.take k) (by omega) (by omega) nrr cvr
    refine ⟨fun σ' H' => ∃ z2 c2, σ' = rS p (some (.ref m)) (some (.ref c)) (some z) (some (.int (k : Nat))) s5 s6 (some z2) none none none none none ∧ Mf p H' m ms mm ∧ Cf p H' c us ps ∧ Lf a p H' z (.ref c) ps ∧ Lf a p H' z2 (.ref c2) (ps.drop k ++ ps.take k) ∧ Sta Pj p H H' (n + 210), ?c9, ?d9⟩
    case c9 =>
      refine ⟨_, rfl, _, rfl, _, rfl, ?_⟩
      unfold tNoPart
      refine slA_cut (lo := some ((k : Nat) : Int)) cf.tup fun b1 H9 S9 hb1 => ⟨_, rfl, _, rfl, _, rfl, ?_⟩
      refine slA_cut (hi := some ((k : Nat) : Int)) (S9 _ _ cf.tup) fun b2 H10 S10 hb2 => ?_
      rw [cutV_suf] at hb1
      rw [cutV_pre] at hb2
      refine catA_any (S10 _ _ hb1) hb2 (by rw [List.length_drop, List.length_take]; omega) fun c2 H11 S11 hc2 _ => ?_
      have S811 := (S9.trans S10).trans S11
      have hp2 : Pls H11 (us.drop k ++ us.take k) (ps.drop k ++ ps.take k) := Paired.mapP (pls_app (pls_drop k cf.pls) (pls_take k cf.pls)) fun _ _ e => Pt.same S811 e
      have hda : Da H11 (.ref c2) (.tuple ((ps.drop k ++ ps.take k).map plD)) := .tup hc2 (pls_da hp2)
      intro x dx c1 c2' c3
      refine mk_ld hda c1 c2' (fun ps' e H12 S12 l => ⟨rfl, ?_⟩) (fun e => by rw [hldr] at e; cases e)
      rw [hldr] at e
      cases e
      have S812 := S811.trans S12
      have k12 := Kp.same (p := p) S812
      have st12 := st.same S812
      exact ⟨_, c2, rfl, mf.kp k12, cf.kp k12, lf.kp k12, Lf.of st12.pt l (fun e => by rw [e] at hrl; rw [List.length_nil] at hrl; omega), st12⟩
    case d9 =>
    clear mf cf lf st
    rintro σ' H9 ⟨z2, c2, rfl, mf, cf, lf, lf2, st⟩
    have hldl := land_pl (ps := ps.take 3) (by rw [List.length_take]; omega) (by rw [List.length_take]; omega) (fun x hx => nr x (List.mem_of_mem_take hx)) (cvx_take 3 cv)
    refine ⟨fun σ' H' => ∃ z3 c3, σ' = rS p (some (.ref m)) (some (.ref c)) (some z) (some (.int (k : Nat))) s5 s6 (some z2) (some z3) none none none none ∧ Cf p H' c us ps ∧ Lf a p H' z (.ref c) ps ∧ Lf a p H' z2 (.ref c2) (ps.drop k ++ ps.take k) ∧ Lf a p H' z3 (.ref c3) (ps.take 3) ∧ Sta Pj p H H' (n + 210), ?c10, ?d10⟩
    case c10 =>
      refine ⟨_, rfl, 3, rfl, ?_⟩
      refine slA_cut (hi := some ((3 : Nat) : Int)) cf.tup fun b2 H10 S10 hb2 => ?_
      rw [cutV_pre] at hb2
      have hp2 : Pls H10 (us.take 3) (ps.take 3) := Paired.mapP (pls_take 3 cf.pls) fun _ _ e => Pt.same S10 e
      have hda : Da H10 (.ref b2) (.tuple ((ps.take 3).map plD)) := .tup hb2 (pls_da hp2)
      intro x dx c1 c2' c3
      refine mk_ld hda c1 c2' (fun ps' e H12 S12 l => ⟨rfl, ?_⟩) (fun e => by rw [hldl] at e; cases e)
      rw [hldl] at e
      cases e
      have S812 := S10.trans S12
      have k12 := Kp.same (p := p) S812
      have st12 := st.same S812
      exact ⟨_, b2, rfl, cf.kp k12, lf.kp k12, lf2.kp k12, Lf.of st12.pt l (fun e => by have := congrArg List.length e; rw [List.length_take, List.length_nil] at this; omega), st12⟩
    case d10 =>
    clear mf cf lf lf2 st
    rintro σ' H10 ⟨z3, c3, rfl, cf, lf, lf2, lf3, st⟩
    refine ⟨fun σ' H' => ∃ s7 s8 : Option V, σ' = rS p (some (.ref m)) (some (.ref c)) (some z) (some (.int (k : Nat))) s5 s6 s7 s8 none none none none ∧ Cf p H' c us ps ∧ Lf a p H' z (.ref c) ps ∧ Sta Pj p H H' (n + 210), ?c11, ?d11⟩
    case c11 =>
      obtain ⟨b, dxb, _, _, _, _, _, _, rfl, hb, _⟩ := id lf.ld
      obtain ⟨b2, dx2, _, _, _, _, _, _, rfl, hb2, _⟩ := id lf2.ld
      obtain ⟨b3, dx3, _, _, _, _, _, _, rfl, hb3, _⟩ := id lf3.ld
      refine ⟨_, rfl, _, rfl, b2, dx2, _, .ref a.Land, rfl, hb2, .ins hb, nfL, .ref b2, _, .ref b, _, rfl, lf2.ld, .inl ⟨_, ps, lf.ld, ?_⟩⟩
      refine ⟨_, rfl, rfl, rfl, _, rfl, iteNS (congrArg V.bl (decide_eq_decide.mpr ((rot_eq (cvx_nd h3 cv) hk).trans ⟨fun e => by rw [e]; rfl, fun e => by injection e with e; omega⟩))) ?_⟩
      refine ⟨_, rfl, _, rfl, b3, dx3, _, .ref a.Land, rfl, hb3, .ins hb, nfL, .ref b3, _, .ref b, _, rfl, lf3.ld, .inl ⟨_, ps, lf.ld, ?_⟩⟩
      refine ⟨_, rfl, c, _, rfl, .inr (SqT.of cf.tup), rfl, rfl, _, rfl, iteNS (congrArg V.bl (decide_eq_decide.mpr ((take3_eq h3).trans ⟨fun e => by rw [hul, e]; rfl, fun e => by injection e with e; omega⟩))) ?_⟩
      refine ⟨_, rfl, _, rfl, b, dxb, _, .type "tuple", rfl, hb, .tup cf.tup, T.eqD.nf "tuple" rfl, .ref b, _, _, ps, rfl, lf.ld, .inr ⟨⟨_, .base (.tup cf.tup), T.riD.kt _ (by simp)⟩, ?_⟩⟩
      refine ⟨_, rfl, iteF ?_⟩
      exact ⟨_, _, rfl, cf, lf, st⟩
    case d11 =>
    clear cf lf lf2 lf3 st
    rintro σ' H11 ⟨s7, s8, rfl, cf, lf, st⟩
    refine ⟨fun σ' H' => ∃ S xs, σ' = rS p (some (.ref m)) (some (.ref c)) (some z) (some (.int (k : Nat))) s5 s6 s7 s8 (some (.ref S)) none none none ∧ H11 S = none ∧ S ≠ p ∧ H' S = some (.lst xs) ∧ xs.length = 7 ∧ (∀ x ∈ xs, Is (fun b => b = p ∨ b = S) H' Shw x) ∧ Go p (n + 220) H11 H', ?c12, ?d12⟩
    case c12 =>
      have ncp : c ≠ p := st.pt.tup cf.tup
      have hv : IsT (fun b => b = p) H11 (Gd 26 1) 8 (.ref c) := ⟨c, us, rfl, ncp, cf.tup, by omega, cf_is cf nr fun _ h => h⟩
      have t : Tr (fun b => b = p) H11 := fun b e => by rw [e]; exact st.pt.has
      have gt : ∀ m, m ≤ 24 → ∀ ds : List PyData, ds.length ≤ m → (∀ d ∈ ds, Gd 26 1 d) → Gd 700 4 (.tuple ds) := fun m hm ds l h => (gd_tup (N := 700) h l (by omega)).mono (Nat.le_refl _) (by decide)
      have gl : ∀ m, m ≤ 24 → ∀ ds : List PyData, ds.length ≤ m → (∀ d ∈ ds, Gd 26 1 d) → Gd 700 4 (.list ds) := fun m hm ds l h => (gd_lst (N := 700) h l (by omega)).mono (Nat.le_refl _) (by decide)
      refine t_asgN (t_lst ?_)
      refine t_cons (((evt_rev t (evt_var rfl hv)).g (gt 8 (by decide))) H11 (Same.refl _) _ fun v1 Ha Sa x1 => ?_)
      refine t_cons (((evt_cat t (evt_var rfl hv) (evt_sl t (evt_var rfl hv) evo_none evo_int) (by decide)).g (gt 16 (by decide))) Ha Sa _ fun v2 Hb Sb x2 => ?_)
      have S2 := Sa.trans Sb
      refine t_cons (((evt_sl t (evt_var rfl hv) evo_none evo_int).g (gt 8 (by decide))) Hb S2 _ fun v3 Hc Sc x3 => ?_)
      have S3 := S2.trans Sc
      refine t_cons ((evg_listT t (evt_var rfl hv) (gl 8 (by decide))) Hc S3 _ fun v4 Hd Sd x4 => ?_)
      have S4 := S3.trans Sd
      refine t_cons (((evt_tup (G := Gd 26 1) t eva_nil (by decide)).g (gt 0 (by decide))) Hd S4 _ fun v5 He Se x5 => ?_)
      have S5 := S4.trans Se
      have hus : us ≠ [] := fun e => by rw [e, List.length_nil] at hul; omega
      refine t_cons ⟨_, rfl, c, 3, us, rfl, rfl, SqT.of (S5 _ _ cf.tup), hus, by decide, by decide, by omega, fun q6 n6 => ?_⟩
      have S6 := same_new (o := .tup (List.replicate (3 : Int).toNat us).flatten) n6
      have t6 : Tr (fun b => b = p) He := t.same S5
      have x6 : Is (fun b => b = p) (upd He q6 (.tup (List.replicate (3 : Int).toNat us).flatten)) (Gd 700 4) (.ref q6) := by
        refine is_tup (G' := Gd 26 1) (t6.new n6) upd_same (fun x hx => ?_) fun ds e h => gt 24 (Nat.le_refl _) ds ?_ h
        · obtain ⟨l, hl, hx⟩ := List.mem_flatten.mp hx
          rw [(List.mem_replicate.mp hl).2] at hx
          exact ((cf_is cf nr (fun _ h => h) x hx).same S5).same S6
        · rw [e, List.length_flatten, List.map_replicate, List.sum_replicate_nat]
          show 3 * us.length ≤ 24
          omega
      have g6 : Go p (n + 210) H11 (upd He q6 (.tup (List.replicate (3 : Int).toNat us).flatten)) := (Go.here st.pt).fwd (S5.trans S6)
      have x15 := ((((x1.same Sb).same Sc).same Sd).same Se).same S6
      have x25 := (((x2.same Sc).same Sd).same Se).same S6
      have x35 := ((x3.same Sd).same Se).same S6
      have x45 := (x4.same Se).same S6
      have x55 := x5.same S6
      generalize upd He q6 (.tup (List.replicate (3 : Int).toNat us).flatten) = H12 at g6 x15 x25 x35 x45 x55 x6
      refine ⟨_, rfl, p, n + 210, rfl, g6.pot, by omega, fun v7 H13 i7 g7 => ⟨(by show 7 ≤ sizeLine; decide), fun S nS sS => ?_⟩⟩
      have t12 : Tr (fun b => b = p) H12 := fun b e => by rw [e]; exact g6.pot.has
      have nSp := g7.pot.new nS
      have nS11 : H11 S = none := Go.none (g6.trans g7) st.pt nS
      have SS := same_new (o := .lst [v1, v2, v3, v4, v5, .ref q6, v7]) nS
      have up : ∀ {G : PyData → Prop} {x : V}, (∀ d, G d → Shw d) → Is (fun b => b = p) H13 G x → Is (fun b => b = p ∨ b = S) (upd H13 S (.lst [v1, v2, v3, v4, v5, .ref q6, v7])) Shw x := fun h x => Is.put (x.imp h) nS
      have g7' : ∀ d, Gd 700 4 d → Shw d := gd_shw (by decide) (by decide)
      refine ⟨S, _, rfl, nS11, nSp, upd_same, rfl, fun x hx => ?_, ((g6.trans g7).over nS11 nSp).mono (by omega)⟩
      simp only [List.mem_cons, List.not_mem_nil, or_false] at hx
      rcases hx with rfl | rfl | rfl | rfl | rfl | rfl | rfl
      · exact up g7' (g7.is rfl x15)
      · exact up g7' (g7.is rfl x25)
      · exact up g7' (g7.is rfl x35)
      · exact up g7' (g7.is rfl x45)
      · exact up g7' (g7.is rfl x55)
      · exact up g7' (g7.is rfl x6)
      · exact up (fun d h => gd_shw (by decide) (by decide) d h.1) (i7 _ t12)
    case d12 =>
    rintro σ' H12 ⟨S, xs, rfl, nS, nSp, hS, hl, hx, g12⟩
    refine ⟨fun σ' H' => ∃ (s10 : Option V) (xs : List V), σ' = rS p (some (.ref m)) (some (.ref c)) (some z) (some (.int (k : Nat))) s5 s6 s7 s8 (some (.ref S)) s10 none none ∧ H' S = some (.lst xs) ∧ xs.length = 13 ∧ (∀ x ∈ xs, Is (fun b => b = p ∨ b = S) H' Shw x) ∧ Go p (n + 280) H11 H', ?c13, ?d13⟩
    case c13 =>
      refine ⟨6, rfl, by decide, by decide, for_it (n := 6) walk_range (fun i σ H' => ∃ (s10 : Option V) (xs : List V), σ = rS p (some (.ref m)) (some (.ref c)) (some z) (some (.int (k : Nat))) s5 s6 s7 s8 (some (.ref S)) s10 none none ∧ H' S = some (.lst xs) ∧ xs.length = 7 + i ∧ (∀ x ∈ xs, Is (fun b => b = p ∨ b = S) H' Shw x) ∧ Go p (n + 220 + 10 * i) H11 H')
        ⟨_, xs, rfl, hS, hl, hx, g12⟩ (fun _ _ _ _ _ => trivial) ?turn13 ?fin13⟩
      case turn13 =>
        rintro i v σ H130 H13 hi ⟨s10, ys, rfl, hS', ly, hy, g13⟩ ⟨rfl, rfl⟩
        have t13 : Tr (fun b => b = p ∨ b = S) H13 := fun b e => by
          rcases e with e | e
          · rw [e]; exact g13.pot.has
          · rw [e, hS']; simp
        refine ⟨_, rfl, .inl ⟨rfl, _, SqL.of hS'⟩, _, rfl, _, rfl, (fun b => b = p ∨ b = S), p, .ref c, _, n + 220 + 10 * i, rfl, g13.pot, .inl rfl, t13, by decide, (by show n + 220 + 10 * i + 2 * 2 + 10 ≤ 100000; omega), cf_da cf (Kp.go g13) nS, pls_bt (by omega) h8 nr, fun u j H14 iu g14 hj => ?_⟩
        have hj : j ≤ n + 220 + 10 * i + 2 * 2 + 2 := hj
        have hS4 := g14.at hS' nSp
        refine ⟨S, ys, u, rfl, rfl, hS4, by omega, _, ys ++ [u], rfl, upd_same, by rw [List.length_append, ly]; rfl, fun x hx => ?_, (((g13.trans g14).over nS nSp).mono (by omega))⟩
        rcases List.mem_append.mp hx with h | h
        · exact Is.over (g14.is (.inl rfl) (hy x h)) (.inr rfl)
        · rw [List.mem_singleton.mp h]
          exact Is.over (iu.imp (gd_shw (by decide +kernel) (by decide))) (.inr rfl)
      case fin13 =>
        rintro σ H13 ⟨s10, ys, rfl, hS', ly, hy, g13⟩
        exact ⟨s10, ys, rfl, hS', ly, hy, g13⟩
    case d13 =>
    clear hS hl hx g12
    rintro σ' H13 ⟨s10, xs, rfl, hS, hl, hx, g13⟩
    refine ⟨fun σ' H' => ∃ S xs, σ' = rS p (some (.ref m)) (some (.ref c)) (some z) (some (.int (k : Nat))) s5 s6 s7 s8 (some (.ref S)) s10 none none ∧ H11 S = none ∧ S ≠ p ∧ H' S = some (.lst xs) ∧ xs.length = 15 ∧ (∀ x ∈ xs, Is (fun b => b = p ∨ b = S) H' Shw x) ∧ Go p (n + 280) H11 H', ?c14, ?d14⟩
    case c14 =>
      have t13 := tr_two g13.pot hS
      refine t_asgN ⟨_, rfl, eva_list (G := Gd 700 2) (m := 2) t13 ?ev14 (by decide) fun l ys H14 S14 nl hl' sl ll hy => ?_⟩
      case ev14 => walk_at "evp"
      refine ⟨_, _, _, _, rfl, rfl, S14 _ _ hS, hl', by omega, fun q nq => ?_⟩
      have g14 := g13.fwd S14
      have nq11 := Go.none g14 st.pt nq
      exact ⟨q, _, rfl, nq11, g14.pot.new nq, upd_same, by rw [List.length_append, hl, ll], is_app hx S14 hy (gd_shw (by decide) (by decide)) nq, g14.over nq11 (g14.pot.new nq)⟩
    case d14 =>
    clear hS hl hx g13 nS nSp
    rintro σ' H14 ⟨S, xs, rfl, nS, nSp, hS, hl, hx, g14⟩
    refine ⟨fun σ' H' => ∃ xs, σ' = rS p (some (.ref m)) (some (.ref c)) (some z) (some (.int (k : Nat))) s5 s6 s7 s8 (some (.ref S)) s10 none none ∧ H' S = some (.lst xs) ∧ xs.length = 16 ∧ (∀ x ∈ xs, Is (fun b => b = p ∨ b = S) H' Shw x) ∧ Go p (n + 280) H11 H', ?c15, ?d15⟩
    case c15 =>
      have t14 := tr_two g14.pot hS
      refine ⟨_, rfl, .inl ⟨rfl, _, SqL.of hS⟩, t_cons ((show EvG (fun b => b = p ∨ b = S) _ _ H14 (Gd 700 2) from ?ev15) H14 (Same.refl _) _ fun v H15 S15 iv => ?_)⟩
      case ev15 => walk_at "evp"
      have hS5 := S15 _ _ hS
      refine ⟨S, xs, v, rfl, rfl, hS5, by omega, _, rfl, upd_same, by rw [List.length_append, hl]; rfl, fun x hx' => ?_, (g14.fwd S15).over nS nSp⟩
      rcases List.mem_append.mp hx' with h | h
      · exact Is.over ((hx x h).same S15) (.inr rfl)
      · rw [List.mem_singleton.mp h]
        exact Is.over (iv.imp (gd_shw (by decide) (by decide))) (.inr rfl)
    case d15 =>
    clear hS hl hx g14
    rintro σ' H15 ⟨xs, rfl, hS, hl, hx, g15⟩
    refine ⟨fun σ' H' => ∃ S xs, σ' = rS p (some (.ref m)) (some (.ref c)) (some z) (some (.int (k : Nat))) s5 s6 s7 s8 (some (.ref S)) s10 none none ∧ H11 S = none ∧ S ≠ p ∧ H' S = some (.lst xs) ∧ xs.length = 19 ∧ (∀ x ∈ xs, Is (fun b => b = p ∨ b = S) H' Shw x) ∧ Go p (n + 280) H11 H', ?c16, ?d16⟩
    case c16 =>
      have t15 := tr_two g15.pot hS
      refine t_asgN ⟨_, rfl, eva_list (G := Gd 700 2) (m := 3) t15 ?ev16 (by decide) fun l ys H16 S16 nl hl' sl ll hy => ?_⟩
      case ev16 => walk_at "evp"
      refine ⟨_, _, _, _, rfl, rfl, S16 _ _ hS, hl', by omega, fun q nq => ?_⟩
      have g16 := g15.fwd S16
      have nq11 := Go.none g16 st.pt nq
      exact ⟨q, _, rfl, nq11, g16.pot.new nq, upd_same, by rw [List.length_append, hl, ll], is_app hx S16 hy (gd_shw (by decide) (by decide)) nq, g16.over nq11 (g16.pot.new nq)⟩
    case d16 =>
    clear hS hl hx g15 nS nSp
    rintro σ' H16 ⟨S, xs, rfl, nS, nSp, hS, hl, hx, g16⟩
    refine ⟨fun σ' H' => ∃ v, σ' = rS p (some (.ref m)) (some (.ref c)) (some z) (some (.int (k : Nat))) s5 s6 s7 s8 (some (.ref S)) s10 (some v) none ∧ H' S = some (.lst xs) ∧ (∀ x ∈ xs, Is (fun b => b = p ∨ b = S) H' Shw x) ∧ Is (fun b => b = p ∨ b = S) H' Shw v ∧ Go p (n + 280) H11 H', ?c17, ?d17⟩
    case c17 =>
      have t16 := tr_two g16.pot hS
      refine t_asgN ((show EvG (fun b => b = p ∨ b = S) _ _ H16 (Gd 700 2) from ?ev17) H16 (Same.refl _) _ fun v H17 S17 iv => ?_)
      case ev17 => walk_at "evp"
      exact ⟨v, rfl, S17 _ _ hS, fun x h => (hx x h).same S17, iv.imp (gd_shw (by decide) (by decide)), g16.fwd S17⟩
    case d17 =>
    clear hS hx g16
    rintro σ' H17 ⟨vs, rfl, hS, hx, iv, g17⟩
    refine ⟨fun σ' H' => ∃ O os, σ' = rS p (some (.ref m)) (some (.ref c)) (some z) (some (.int (k : Nat))) s5 s6 s7 s8 (some (.ref S)) s10 (some vs) (some (.ref O)) ∧ Same H17 H' ∧ H' O = some (.lst os) ∧ os.length = 7 ∧ (∀ x ∈ os, ∀ H2, ExtN H' H2 → NotP K a H2 x), ?c18, ?d18⟩
    case c18 =>
      have cf17 := cf.kp (Kp.go g17)
      have lf17 := (lf.kp (Kp.go g17)).ld
      obtain ⟨b, dxb, _, _, _, _, _, _, rfl, hb, _⟩ := id lf17
      obtain ⟨u0, hu0⟩ : ∃ u0, us[0]? = some u0 := ⟨_, List.getElem?_eq_getElem (by omega)⟩
      obtain ⟨P0, _, q0, rfl, hq0⟩ := paired_at cf17.pls hu0
      have ud1 : Ud (1 : Int) := Nat.lt_of_lt_of_le (m := 2 ^ 1) (by decide) (Nat.pow_le_pow_right (by decide) (by decide))
      refine t_asgN (t_lst ⟨_, rfl, _, rfl, c, us, 0, _, rfl, rfl, SqT.of cf17.tup, at_of (j := 0) rfl hu0, ?_⟩)
      intro x1 d1 e1 e2 e3
      refine mk_q2 (by decide) ud1 e1 e2 e3 fun Ha Sa ra => ⟨rfl, ?_⟩
      intro x2 d2 e4 e5 e6
      refine mk_q2 (by decide) ud1 e4 e5 e6 fun Hb Sb rb => ⟨rfl, ?_⟩
      refine ⟨(by show 2 ≤ sizeLine; decide), fun tq nq => ⟨_, rfl, (by show 7 ≤ sizeLine; decide), fun O nO sO => ?_⟩⟩
      have Sq := same_new (o := .tup [.ref x1, .ref x2]) nq
      have SO := same_new (o := .lst [.ref c, .int 0, .non, .ref q0, .str "land", .ref tq, .ref b]) nO
      have S18 := ((Sa.trans Sb).trans Sq).trans SO
      refine ⟨O, _, rfl, S18, upd_same, rfl, fun x hx H2 ex => ?_⟩
      simp only [List.mem_cons, List.not_mem_nil, or_false] at hx
      rcases hx with rfl | rfl | rfl | rfl | rfl | rfl | rfl
      · exact ⟨_, .base (.tup (ex _ _ (S18 _ _ cf17.tup) fun _ z => nomatch z)), T.riP.kt _ (by simp)⟩
      · exact ⟨_, .base (.int _), T.riP.kt _ (by simp)⟩
      · exact ⟨_, .base .non, T.riP.kt _ (by simp)⟩
      · exact ⟨_, .base (.tup (ex _ _ (S18 _ _ hq0) fun _ z => nomatch z)), T.riP.kt _ (by simp)⟩
      · exact ⟨_, .base (.str _), T.riP.kt _ (by simp)⟩
      · exact ⟨_, .base (.tup (ex _ _ (SO _ _ upd_same) fun _ z => nomatch z)), T.riP.kt _ (by simp)⟩
      · exact ⟨_, .base (.ins (ex _ _ (S18 _ _ hb) fun _ z => nomatch z) T.clD T.riD.ca T.riD.cn T.riD.ct T.riD.cm), T.rDP⟩
    case d18 =>
    rintro σ' H18 ⟨O, os, rfl, S18, hO, hol, hos⟩
    have hS8 := S18 _ _ hS
    have hx8 : ∀ x ∈ xs, Is (fun b => b = p ∨ b = S) H18 Shw x := fun x h => (hx x h).same S18
    have iv8 := iv.same S18
    have g18 := g17.fwd S18
    have st18 := st.go g18
    clear hS hx iv g17 S18
    refine ⟨_, rfl, _, rfl, (by show 1 ≤ sizeLine; decide), fun l nl sl => ?_⟩
    have Sl := same_new (o := .lst [vs]) nl
    refine ⟨_, _, _, _, rfl, rfl, Sl _ _ hS8, upd_same, by rw [hl]; show 19 + 1 ≤ sizeLine; decide, fun q2 nq => ?_⟩
    have Sq := same_new (o := .lst (xs ++ [vs])) nq
    have S20 := Sl.trans Sq
    have items : ∀ x ∈ xs ++ [vs], ∃ d, Da (upd (upd H18 l (.lst [vs])) q2 (.lst (xs ++ [vs]))) x d ∧ Shw d := fun x h => by
      rcases List.mem_append.mp h with h | h
      · exact Is.da ((hx8 x h).same S20)
      · rw [List.mem_singleton.mp h]
        exact Is.da (iv8.same S20)
    have hq : upd (upd H18 l (.lst [vs])) q2 (.lst (xs ++ [vs])) q2 = some (.lst (xs ++ [vs])) := upd_same
    have st20 := st18.same S20
    generalize upd (upd H18 l (.lst [vs])) q2 (.lst (xs ++ [vs])) = H20 at S20 items hq st20
    clear hx8 iv8 hS8 Sq Sl nq nl
    refine ⟨q2, rfl, ⟨_, SqL.of hq⟩, fun D hD => ?_⟩
    refine lc_it (walk_list (xs := xs ++ [vs])) (fun i H' => ExtN H20 H' ∧ Tabs (TT Pj) H' ∧ H' D = some (.lst ((List.replicate i true).map V.bl))) ⟨ExtN.of (same_new hD), Tabs.ext st20.tb (same_new hD), upd_same⟩ (fun i H' _ h => sql_ext h.1 (SqL.of hq)) ?t1 ?t2
    case t1 =>
      rintro i x H' H'' hi ⟨e, tb, d'⟩ ⟨rfl, hx⟩
      obtain ⟨d, hd, sh⟩ := items x (List.mem_of_getElem? hx)
      rw [List.length_append, hl] at hi
      have hi : i < 20 := hi
      refine ⟨rfl, _, rfl, x, d, rfl, Da.extN e hd, sh, tb, fun H3 t3 e3 => ?_⟩
      have d3 := e3 _ _ d' (fun _ z => nomatch z)
      refine ⟨_, d3, by rw [List.length_map, List.length_replicate]; omega, fun b o eb t => ?_, My.Tabs.over t3 d3, ?_⟩
      · rw [upd_ne (ne_of_none eb hD)]
        exact e3 _ _ (e _ _ eb t) t
      · rw [upd_same, List.replicate_succ', List.map_append]
        rfl
    case t2 =>
      rintro H21 ⟨e, tb, d'⟩
      refine ⟨D, _, rfl, SqL.of d', _, rfl, ?_⟩
      rw [show (List.replicate (xs ++ [vs]).length true).all id = true from List.all_eq_true.mpr fun b hb => by rw [(List.mem_replicate.mp hb).2]; rfl]
      refine iteT ?_
      have e21 : ExtN H18 H21 := (ExtN.of S20).trans e
      have hO21 := e21 _ _ hO fun _ z => nomatch z
      have lf21 := (lf.kp ((Kp.go g18).trans (Kp.ext e21))).ld
      obtain ⟨b, dxb, _, _, _, _, _, _, rfl, hb, _⟩ := id lf21
      refine ⟨_, rfl, O, rfl, ⟨_, SqL.of hO21⟩, fun D2 nD2 => lc_valW walk_list (fun _ => .bl false) nD2 (fun H' S => S.seq (SqL.of hO21)) (by omega) ?he22 ?hd22⟩
      case he22 =>
        rintro i x H5 H6 Q' N hi S ⟨rfl, hx⟩ qy
        exact ⟨rfl, yesI ⟨_, rfl, _, rfl, b, dxb, _, rfl, S _ _ hb, .ref b, _, x, ps, rfl, lf21.same S, nr, h8, .inr ⟨hos x (List.mem_of_getElem? hx) _ (e21.trans (ExtN.of S)), _, rfl, qy _ (Same.refl _)⟩⟩⟩
      case hd22 =>
        intro H5 S5 hD5
        refine ⟨D2, (List.range os.length).map fun _ => false, rfl, SqL.of (by rw [List.map_map]; exact hD5), _, rfl, ?_⟩
        rw [show ((List.range os.length).map fun _ => false).any id = false from List.any_eq_false.mpr fun b hb => by
          obtain ⟨_, _, rfl⟩ := List.mem_map.mp hb
          exact Bool.false_ne_true]
        exact q _ (((st20.ext e tb).same S5).mono (by omega))
end
end My

namespace My
open PySem PySem.Spec PyProof.Rows L2 G LamX
abbrev s_law : Stmt := topS 64
theorem sc_law : FnScope ["_law_script", "_law_place", "_law_pot_here", "_law_turn"] ["_law_script"] (defScope s_law) := ⟨rfl, rfl, rfl, by decide +kernel, rfl, by decide +kernel, by decide +kernel⟩

def spLaw (K : PySem.W.Frag) (Pj : Addr) : Sp := fun vs H Q _ => ∃ (s : Addr) (ns : List Int), vs = [.ref s] ∧ SqL K H s (ns.map V.int) ∧ ns.length ≤ 63 ∧ Tabs (TT Pj) H ∧ ∀ H', Q (.bl true) H'
section
variable {P : Program} {w : World} {K : PySem.W.Frag} {mg : Str → Option Value} {base : Heap} {a : Ad} {Pj : Addr}
theorem ok_law {fd : FuncData} (F : Fun K "law" "law" s_law a.law fd) (T : Txt K mg a)
    {fd__law_places : FuncData} (G__law_places : Fn P w K mg base CX0 1 a._law_places fd__law_places ["_law_script", "_law_most"] (spPlaces K)) (b__law_places : Binds K fd__law_places ["_law_script", "_law_most"] [])
    {fd__law_right : FuncData} (G__law_right : Fn P w K mg base CX0 16 a._law_right fd__law_right ["_law_pot_here"] (spRt Pj)) (b__law_right : Binds K fd__law_right ["_law_pot_here"] [])
    {fd__law_pot : FuncData} (G__law_pot : Fn P w K mg base CX0 1 a._law_pot fd__law_pot ["_law_script", "_law_k"] (spPot K)) (b__law_pot : Binds K fd__law_pot ["_law_script", "_law_k"] []) :
    Fn P w K mg base CX0 18 a.law fd ["_law_script"] (spLaw K Pj) := by
  refine ok F sc_law (fun vs H Q E h => ?len) (fun cdv A outer s H vs Q E hq hr h => ⟨_,
      (pss_cons (ps_for PassesOwn.never rfl (pi_list (pe_fn G__law_places hq (hr.mono (by omega)) (by rfl) T.g__law_places T.k__law_places b__law_places .nil pass0 (pa_cons (pv 0) (pa_cons pe_int pa_nil)))) (pg_name (i := 1) sc_law.nd rfl (Or.inl rfl)) (pss_cons (ps_set (i := 2) sc_law.nd rfl (Or.inr rfl) (pe_fn G__law_pot hq (hr.mono (by omega)) (by rfl) T.g__law_pot T.k__law_pot b__law_pot .nil pass0 (pa_cons (pv 0) (pa_cons (pv 1) pa_nil))))
      (pss_one (ps_if (pt_not (pt_val (pe_callB (cr_all rfl) (by rfl) T.n_all (by decide +kernel) (pa_cons (pe_lc (own := [("_law_turn", 3)]) (g := gName 3) (tt := tYes) rfl sc_law.nd (pi_range1 (by rfl) T.n_range (pa_cons pe_int pa_nil)) (blkOk_by (own := [("_law_turn", 3)]) (N := ["_law_script", "_law_place", "_law_pot_here", "_law_turn"]) (sc := defScope s_law) (by decide +kernel)) (fun _ _ _ _ _ => (pg_name (i := 3) sc_law.nd rfl (Or.inl rfl))) (fun _ _ _ _ _ => pts_nil) (fun _ _ _ _ _ => (pe_fn G__law_right hq (hr.mono (by omega)) (by rfl) T.g__law_right T.k__law_right b__law_right .nil pass0 (pa_cons (pv 2) pa_nil)))) pa_nil)))) (pss_one (ps_ret pe_bl)) pss_nil))))
      (pss_one (ps_ret pe_bl))), ?body⟩)
  case len => obtain ⟨s, ns, rfl, _⟩ := h; rfl
  case body =>
    obtain ⟨s, ns, rfl, hs, hl, tabs, q⟩ := h
    refine ⟨_, rfl, s, ns, 4, rfl, hs, hl, by decide, by decide, fun l n H1 nl S1 hn hl1 => ?_⟩
    have ln : (rgV 0 n).length = n := by rw [rgV_length]; omega
    refine ⟨l, rfl, ⟨_, SqL.of hl1⟩, for_it (walk_list (xs := rgV 0 n)) (fun i σ H' => ∃ s1 s2 s3, σ = [some (.ref s), s1, s2, s3] ∧ ExtN H1 H' ∧ Tabs (TT Pj) H') ⟨none, none, none, rfl, ExtN.refl _, Tabs.ext tabs S1⟩ ?_ ?_ ?_⟩
    · rintro i σ H' _ ⟨s1, s2, s3, _, e, _⟩
      exact sql_ext e (SqL.of hl1)
    · rintro i x σ H' H'' hi ⟨s1, s2, s3, rfl, e, tb⟩ ⟨rfl, hx⟩
      obtain ⟨hi1, hi2⟩ := List.getElem?_eq_some_iff.mp hx
      obtain rfl : V.int (0 + (i : Nat)) = x := by
        have z := hx
        unfold rgV at z
        rw [List.getElem?_map, List.getElem?_range (by omega)] at z
        exact Option.some.inj z
      refine ⟨_, rfl, _, rfl, s, ns, 0 + (i : Nat), rfl, sql_ext e (S1.seq hs), hl, by omega, by omega, fun p H2 np S2 pot => ?_⟩
      refine ⟨3, rfl, by decide, by decide, fun D hD => ?_⟩
      have nD : D ≠ p := fun z => pot.has (by rw [← z]; exact hD)
      refine lc_range (fun i H3 => Kp p H2 H3 ∧ H3 D = some (.lst ((List.replicate i true).map V.bl)) ∧ PotAt H3 p (300 * i) ∧ Tabs (TT Pj) H3)
        ⟨Kp.same (same_new hD), upd_same, pot.same (same_new hD), Tabs.ext (Tabs.ext tb S2) (same_new hD)⟩ ?_ ?_
      · rintro j H3 hj ⟨k3, d3, p3, t3⟩
        refine ⟨rfl, ?_⟩
        refine ⟨_, rfl, p, 300 * j, rfl, p3, by omega, t3, fun H4 s4 => ?_⟩
        have d4 := s4.kp.at d3 nD fun _ z => nomatch z
        refine ⟨_, d4, by rw [List.length_map, List.length_replicate, sizeLine_eq]; omega, (k3.trans s4.kp).over hD, ?_, (s4.pt.mono (by omega)).over nD, My.Tabs.over s4.tb d4⟩
        rw [upd_same, List.replicate_succ', List.map_append]; rfl
      · rintro H3 ⟨k3, d3, p3, t3⟩
        refine ⟨D, _, rfl, SqL.of d3, _, rfl, ?_⟩
        refine iteF ⟨_, _, _, rfl, fun b o eb t => ?_, t3⟩
        have eb' := S2 _ _ (e _ _ eb t)
        refine k3.at eb' (fun z => ?_) t
        have ez := e _ _ eb t
        rw [z, np] at ez
        cases ez
    · rintro σ H' ⟨s1, s2, s3, rfl, e, tb⟩
      exact q _
end
end My

namespace My
open PySem PySem.Spec PyProof.Rows L2 G LamX
abbrev s_init : Stmt := inClass (topS 2) 0
theorem sc_init : FnScope ["self", "value"] ["self", "value"] (defScope s_init) := ⟨rfl, rfl, rfl, by decide +kernel, rfl, by decide +kernel, by decide +kernel⟩
theorem ok_init {P : Program} {w : World} {K : PySem.W.Frag} {mg : Str → Option Value} {base : Heap} {f : Addr} {fd : FuncData} (F : Fun K "__init__" "AboutError.__init__" s_init f fd) : FnOk P w K mg base CX0 1 f fd ["self", "value"] (spErrInit K) := by
  refine F.ok sc_init (fun vs H Q E h => ?_) (fun cdv A outer s H vs Q E hr h => ?_)
  · obtain ⟨p, C, v, rfl, _⟩ := h
    rfl
  · obtain ⟨p, C, v, rfl, T, nv, hp, q⟩ := h
    exact ⟨_, pss_one (ps_ost (pv 0) (pv 1)), _, rfl, _, rfl, p, C, rfl, T, nv, .inl ⟨hp, fun dx h1 h2 => q dx h1 h2⟩⟩

theorem all_mk {P : Program} {w : World} {K : PySem.W.Frag} {h : Heap} {mg : Str → Option Value} {fa : Addr} (X : K.In h) (G : h.Ns mainGlobals mg) (hfa : mg "law" = some (.ref fa))
    (bare__law_is_judged : Bare mg h "_law_is_judged")
    {tF : Tok}
    {C_AboutError C_BadLand C_Ratio C_Point C_Line C_Land f_init : Addr}
    {nm_AboutError q_AboutError : Str} {N_AboutError : Addr} {bs_AboutError : List Value} {sn_AboutError : List Str} {sub_AboutError : List Value} {ab_AboutError : Bool} {col_AboutError : Option Bool} {dd_AboutError : Option Addr} {m0_AboutError m1_AboutError m2_AboutError m3_AboutError m5_AboutError : Option Value}
    {nm_BadLand q_BadLand : Str} {N_BadLand : Addr} {bs_BadLand : List Value} {sn_BadLand : List Str} {sub_BadLand : List Value} {ab_BadLand : Bool} {col_BadLand : Option Bool} {dd_BadLand : Option Addr} {m0_BadLand m1_BadLand m2_BadLand m3_BadLand m5_BadLand : Option Value}
    {od_init an_init : Option Addr} {sl_init : Array (Option Value)} {oc_init kV_init dc_init pm_init cd_init ct_init : Value}
    {f__law_told : Addr}
    {od__law_told an__law_told : Option Addr} {sl__law_told : Array (Option Value)} {oc__law_told kV__law_told dc__law_told pm__law_told cd__law_told ct__law_told : Value}
    {f__law_pot : Addr}
    {od__law_pot an__law_pot : Option Addr} {sl__law_pot : Array (Option Value)} {oc__law_pot kV__law_pot dc__law_pot pm__law_pot cd__law_pot ct__law_pot : Value}
    {f__law_take : Addr}
    {od__law_take an__law_take : Option Addr} {sl__law_take : Array (Option Value)} {oc__law_take kV__law_take dc__law_take pm__law_take cd__law_take ct__law_take : Value}
    {f__law_of : Addr}
    {od__law_of an__law_of : Option Addr} {sl__law_of : Array (Option Value)} {oc__law_of kV__law_of dc__law_of pm__law_of cd__law_of ct__law_of : Value}
    {f__law_places : Addr}
    {od__law_places an__law_places : Option Addr} {sl__law_places : Array (Option Value)} {oc__law_places kV__law_places dc__law_places pm__law_places cd__law_places ct__law_places : Value}
    {f__law_odd : Addr}
    {od__law_odd an__law_odd : Option Addr} {sl__law_odd : Array (Option Value)} {oc__law_odd kV__law_odd dc__law_odd pm__law_odd cd__law_odd ct__law_odd : Value}
    {f_is_integer : Addr}
    {od_is_integer an_is_integer : Option Addr} {sl_is_integer : Array (Option Value)} {oc_is_integer kV_is_integer dc_is_integer pm_is_integer cd_is_integer ct_is_integer : Value}
    {f_is_number : Addr}
    {od_is_number an_is_number : Option Addr} {sl_is_number : Array (Option Value)} {oc_is_number kV_is_number dc_is_number pm_is_number cd_is_number ct_is_number : Value}
    {f_Ratio___init__ : Addr}
    {od_Ratio___init__ an_Ratio___init__ : Option Addr} {sl_Ratio___init__ : Array (Option Value)} {oc_Ratio___init__ kV_Ratio___init__ dc_Ratio___init__ pm_Ratio___init__ cd_Ratio___init__ ct_Ratio___init__ : Value}
    {dT_Ratio___init__ : Addr} {cT_Ratio___init__ : Value} {eT_Ratio___init__ : Option Addr} {its_Ratio___init__ : List Value} {mT_Ratio___init__ : Nat} {sT_Ratio___init__ : Array (Option Value)}
    {f_as_ratio : Addr}
    {od_as_ratio an_as_ratio : Option Addr} {sl_as_ratio : Array (Option Value)} {oc_as_ratio kV_as_ratio dc_as_ratio pm_as_ratio cd_as_ratio ct_as_ratio : Value}
    {f_Ratio___eq__ : Addr}
    {od_Ratio___eq__ an_Ratio___eq__ : Option Addr} {sl_Ratio___eq__ : Array (Option Value)} {oc_Ratio___eq__ kV_Ratio___eq__ dc_Ratio___eq__ pm_Ratio___eq__ cd_Ratio___eq__ ct_Ratio___eq__ : Value}
    {f_check_point : Addr}
    {od_check_point an_check_point : Option Addr} {sl_check_point : Array (Option Value)} {oc_check_point kV_check_point dc_check_point pm_check_point cd_check_point ct_check_point : Value}
    {f_Point___init__ : Addr}
    {od_Point___init__ an_Point___init__ : Option Addr} {sl_Point___init__ : Array (Option Value)} {oc_Point___init__ kV_Point___init__ dc_Point___init__ pm_Point___init__ cd_Point___init__ ct_Point___init__ : Value}
    {f_Point___eq__ : Addr}
    {od_Point___eq__ an_Point___eq__ : Option Addr} {sl_Point___eq__ : Array (Option Value)} {oc_Point___eq__ kV_Point___eq__ dc_Point___eq__ pm_Point___eq__ cd_Point___eq__ ct_Point___eq__ : Value}
    {f_Line___init__ : Addr}
    {od_Line___init__ an_Line___init__ : Option Addr} {sl_Line___init__ : Array (Option Value)} {oc_Line___init__ kV_Line___init__ dc_Line___init__ pm_Line___init__ cd_Line___init__ ct_Line___init__ : Value}
    {f_Line___eq__ : Addr}
    {od_Line___eq__ an_Line___eq__ : Option Addr} {sl_Line___eq__ : Array (Option Value)} {oc_Line___eq__ kV_Line___eq__ dc_Line___eq__ pm_Line___eq__ cd_Line___eq__ ct_Line___eq__ : Value}
    {f__is_corner : Addr}
    {od__is_corner an__is_corner : Option Addr} {sl__is_corner : Array (Option Value)} {oc__is_corner kV__is_corner dc__is_corner pm__is_corner cd__is_corner ct__is_corner : Value}
    {f_line_through : Addr}
    {od_line_through an_line_through : Option Addr} {sl_line_through : Array (Option Value)} {oc_line_through kV_line_through dc_line_through pm_line_through cd_line_through ct_line_through : Value}
    {f_spot_of : Addr}
    {od_spot_of an_spot_of : Option Addr} {sl_spot_of : Array (Option Value)} {oc_spot_of kV_spot_of dc_spot_of pm_spot_of cd_spot_of ct_spot_of : Value}
    {f_heights_at : Addr}
    {od_heights_at an_heights_at : Option Addr} {sl_heights_at : Array (Option Value)} {oc_heights_at kV_heights_at dc_heights_at pm_heights_at cd_heights_at ct_heights_at : Value}
    {f__with_next : Addr}
    {od__with_next an__with_next : Option Addr} {sl__with_next : Array (Option Value)} {oc__with_next kV__with_next dc__with_next pm__with_next cd__with_next ct__with_next : Value}
    {f__borders : Addr}
    {od__borders an__borders : Option Addr} {sl__borders : Array (Option Value)} {oc__borders kV__borders dc__borders pm__borders cd__borders ct__borders : Value}
    {f__goes_round_once : Addr}
    {od__goes_round_once an__goes_round_once : Option Addr} {sl__goes_round_once : Array (Option Value)} {oc__goes_round_once kV__goes_round_once dc__goes_round_once pm__goes_round_once cd__goes_round_once ct__goes_round_once : Value}
    {f_Land___init__ : Addr}
    {od_Land___init__ an_Land___init__ : Option Addr} {sl_Land___init__ : Array (Option Value)} {oc_Land___init__ kV_Land___init__ dc_Land___init__ pm_Land___init__ cd_Land___init__ ct_Land___init__ : Value}
    {f_Land___contains__ : Addr}
    {od_Land___contains__ an_Land___contains__ : Option Addr} {sl_Land___contains__ : Array (Option Value)} {oc_Land___contains__ kV_Land___contains__ dc_Land___contains__ pm_Land___contains__ cd_Land___contains__ ct_Land___contains__ : Value}
    {f_Land___eq__ : Addr}
    {od_Land___eq__ an_Land___eq__ : Option Addr} {sl_Land___eq__ : Array (Option Value)} {oc_Land___eq__ kV_Land___eq__ dc_Land___eq__ pm_Land___eq__ cd_Land___eq__ ct_Land___eq__ : Value}
    {f__law_some : Addr}
    {od__law_some an__law_some : Option Addr} {sl__law_some : Array (Option Value)} {oc__law_some kV__law_some dc__law_some pm__law_some cd__law_some ct__law_some : Value}
    {f__law_common : Addr}
    {od__law_common an__law_common : Option Addr} {sl__law_common : Array (Option Value)} {oc__law_common kV__law_common dc__law_common pm__law_common cd__law_common ct__law_common : Value}
    {f__law_height : Addr}
    {od__law_height an__law_height : Option Addr} {sl__law_height : Array (Option Value)} {oc__law_height kV__law_height dc__law_height pm__law_height cd__law_height ct__law_height : Value}
    {f__law_spot : Addr}
    {od__law_spot an__law_spot : Option Addr} {sl__law_spot : Array (Option Value)} {oc__law_spot kV__law_spot dc__law_spot pm__law_spot cd__law_spot ct__law_spot : Value}
    {f__law_cross : Addr}
    {od__law_cross an__law_cross : Option Addr} {sl__law_cross : Array (Option Value)} {oc__law_cross kV__law_cross dc__law_cross pm__law_cross cd__law_cross ct__law_cross : Value}
    {f__law_made_point : Addr}
    {od__law_made_point an__law_made_point : Option Addr} {sl__law_made_point : Array (Option Value)} {oc__law_made_point kV__law_made_point dc__law_made_point pm__law_made_point cd__law_made_point ct__law_made_point : Value}
    {f__law_fits : Addr}
    {od__law_fits an__law_fits : Option Addr} {sl__law_fits : Array (Option Value)} {oc__law_fits kV__law_fits dc__law_fits pm__law_fits cd__law_fits ct__law_fits : Value}
    {f__law_lines : Addr}
    {od__law_lines an__law_lines : Option Addr} {sl__law_lines : Array (Option Value)} {oc__law_lines kV__law_lines dc__law_lines pm__law_lines cd__law_lines ct__law_lines : Value}
    {f__law_marks : Addr}
    {od__law_marks an__law_marks : Option Addr} {sl__law_marks : Array (Option Value)} {oc__law_marks kV__law_marks dc__law_marks pm__law_marks cd__law_marks ct__law_marks : Value}
    {f__law_drawn_spot : Addr}
    {od__law_drawn_spot an__law_drawn_spot : Option Addr} {sl__law_drawn_spot : Array (Option Value)} {oc__law_drawn_spot kV__law_drawn_spot dc__law_drawn_spot pm__law_drawn_spot cd__law_drawn_spot ct__law_drawn_spot : Value}
    {f__law_hull : Addr}
    {od__law_hull an__law_hull : Option Addr} {sl__law_hull : Array (Option Value)} {oc__law_hull kV__law_hull dc__law_hull pm__law_hull cd__law_hull ct__law_hull : Value}
    {f__law_corners : Addr}
    {od__law_corners an__law_corners : Option Addr} {sl__law_corners : Array (Option Value)} {oc__law_corners kV__law_corners dc__law_corners pm__law_corners cd__law_corners ct__law_corners : Value}
    {f__law_is_int : Addr}
    {od__law_is_int an__law_is_int : Option Addr} {sl__law_is_int : Array (Option Value)} {oc__law_is_int kV__law_is_int dc__law_is_int pm__law_is_int cd__law_is_int ct__law_is_int : Value}
    {f__law_edges : Addr}
    {od__law_edges an__law_edges : Option Addr} {sl__law_edges : Array (Option Value)} {oc__law_edges kV__law_edges dc__law_edges pm__law_edges cd__law_edges ct__law_edges : Value}
    {f__law_is_within : Addr}
    {od__law_is_within an__law_is_within : Option Addr} {sl__law_is_within : Array (Option Value)} {oc__law_is_within kV__law_is_within dc__law_is_within pm__law_is_within cd__law_is_within ct__law_is_within : Value}
    {f__law_is_land : Addr}
    {od__law_is_land an__law_is_land : Option Addr} {sl__law_is_land : Array (Option Value)} {oc__law_is_land kV__law_is_land dc__law_is_land pm__law_is_land cd__law_is_land ct__law_is_land : Value}
    {f__law_edge_dots : Addr}
    {od__law_edge_dots an__law_edge_dots : Option Addr} {sl__law_edge_dots : Array (Option Value)} {oc__law_edge_dots kV__law_edge_dots dc__law_edge_dots pm__law_edge_dots cd__law_edge_dots ct__law_edge_dots : Value}
    {f__law_bent : Addr}
    {od__law_bent an__law_bent : Option Addr} {sl__law_bent : Array (Option Value)} {oc__law_bent kV__law_bent dc__law_bent pm__law_bent cd__law_bent ct__law_bent : Value}
    {f__law_is_judged : Addr}
    {od__law_is_judged an__law_is_judged : Option Addr} {sl__law_is_judged : Array (Option Value)} {oc__law_is_judged kV__law_is_judged dc__law_is_judged pm__law_is_judged  ct__law_is_judged : Value}
    {cA__law_is_judged Pt__law_is_judged : Addr} {eC__law_is_judged : Value} {dC__law_is_judged : Option Addr} {vC__law_is_judged : Array Value} {sC__law_is_judged : Array (Option Value)}
    {f__law_right : Addr}
    {od__law_right an__law_right : Option Addr} {sl__law_right : Array (Option Value)} {oc__law_right kV__law_right dc__law_right pm__law_right cd__law_right ct__law_right : Value}
    {f_law : Addr}
    {od_law an_law : Option Addr} {sl_law : Array (Option Value)} {oc_law kV_law dc_law pm_law cd_law ct_law : Value}
    (n_abs : PySem.W.nsIn K mainGlobals "abs" = some none)
    (n_all : PySem.W.nsIn K mainGlobals "all" = some none)
    (n_any : PySem.W.nsIn K mainGlobals "any" = some none)
    (n_bool : PySem.W.nsIn K mainGlobals "bool" = some none)
    (n_enumerate : PySem.W.nsIn K mainGlobals "enumerate" = some none)
    (n_int : PySem.W.nsIn K mainGlobals "int" = some none)
    (n_isinstance : PySem.W.nsIn K mainGlobals "isinstance" = some none)
    (n_len : PySem.W.nsIn K mainGlobals "len" = some none)
    (n_list : PySem.W.nsIn K mainGlobals "list" = some none)
    (n_max : PySem.W.nsIn K mainGlobals "max" = some none)
    (n_min : PySem.W.nsIn K mainGlobals "min" = some none)
    (n_range : PySem.W.nsIn K mainGlobals "range" = some none)
    (n_repr : PySem.W.nsIn K mainGlobals "repr" = some none)
    (n_set : PySem.W.nsIn K mainGlobals "set" = some none)
    (n_sorted : PySem.W.nsIn K mainGlobals "sorted" = some none)
    (n_str : PySem.W.nsIn K mainGlobals "str" = some none)
    (n_sum : PySem.W.nsIn K mainGlobals "sum" = some none)
    (n_tuple : PySem.W.nsIn K mainGlobals "tuple" = some none)
    (n_zip : PySem.W.nsIn K mainGlobals "zip" = some none)
    (gG : PySem.W.nsIn K mainGlobals "gcd" = some (some (.builtin "math.gcd")))
    (gF : PySem.W.nsIn K mainGlobals "_FAR" = some (some (.int 999 tF)))
    (g_AboutError : PySem.W.nsIn K mainGlobals "AboutError" = some (some (.ref C_AboutError)))
    (g_BadLand : PySem.W.nsIn K mainGlobals "BadLand" = some (some (.ref C_BadLand)))
    (x_AboutError : K.lookup C_AboutError = some (excClassObj nm_AboutError q_AboutError C_AboutError N_AboutError bs_AboutError [.type "ValueError", .type "Exception", .type "BaseException", .type "object"] true sn_AboutError sub_AboutError ab_AboutError col_AboutError dd_AboutError m0_AboutError m1_AboutError m2_AboutError m3_AboutError m5_AboutError "ValueError.__new__"))
    (x_BadLand : K.lookup C_BadLand = some (excClassObj nm_BadLand q_BadLand C_BadLand N_BadLand bs_BadLand (.ref C_AboutError :: [.type "ValueError", .type "Exception", .type "BaseException", .type "object"]) true sn_BadLand sub_BadLand ab_BadLand col_BadLand dd_BadLand m0_BadLand m1_BadLand m2_BadLand m3_BadLand m5_BadLand "ValueError.__new__"))
    (i0 : PySem.W.findIn K (.ref C_AboutError) "__init__" = some (some (.ref f_init)))
    (tI : PySem.W.typeIn K (.ref f_init) = some (.type "function"))
    (sp : PySem.W.specialIn K (.builtin "object.__class__") "__get__" = some (some (.builtin "getset_descriptor.__get__")))
    (tk : PySem.W.takesIn K (.builtin "object.__class__") = some true)
    (eb : ([C_AboutError, C_BadLand].all fun C => ecB K f_init C) = true)
    (g_Ratio : PySem.W.nsIn K mainGlobals "Ratio" = some (some (.ref C_Ratio)))
    (g_Point : PySem.W.nsIn K mainGlobals "Point" = some (some (.ref C_Point)))
    (g_Line : PySem.W.nsIn K mainGlobals "Line" = some (some (.ref C_Line)))
    (g_Land : PySem.W.nsIn K mainGlobals "Land" = some (some (.ref C_Land)))
    (l_init : K.lookup f_init = some ⟨oc_init, od_init, .func (PySem.W.fnOf "__init__" "AboutError.__init__" (defArgs s_init) (defBody s_init) (defScope s_init) .none kV_init dc_init pm_init an_init cd_init ct_init), sl_init⟩)
    (c_init : PySem.W.codeIn K cd_init "AboutError.__init__" = true)
    (k_init : PySem.W.keepIn K (.ref f_init) = true)
    (g__law_told : PySem.W.nsIn K mainGlobals "_law_told" = some (some (.ref f__law_told)))
    (l__law_told : K.lookup f__law_told = some ⟨oc__law_told, od__law_told, .func (PySem.W.fnOf "_law_told" "_law_told" (defArgs s__law_told) (defBody s__law_told) (defScope s__law_told) .none kV__law_told dc__law_told pm__law_told an__law_told cd__law_told ct__law_told), sl__law_told⟩)
    (c__law_told : PySem.W.codeIn K cd__law_told "_law_told" = true)
    (k__law_told : PySem.W.keepIn K (.ref f__law_told) = true)
    (g__law_pot : PySem.W.nsIn K mainGlobals "_law_pot" = some (some (.ref f__law_pot)))
    (l__law_pot : K.lookup f__law_pot = some ⟨oc__law_pot, od__law_pot, .func (PySem.W.fnOf "_law_pot" "_law_pot" (defArgs s__law_pot) (defBody s__law_pot) (defScope s__law_pot) .none kV__law_pot dc__law_pot pm__law_pot an__law_pot cd__law_pot ct__law_pot), sl__law_pot⟩)
    (c__law_pot : PySem.W.codeIn K cd__law_pot "_law_pot" = true)
    (k__law_pot : PySem.W.keepIn K (.ref f__law_pot) = true)
    (g__law_take : PySem.W.nsIn K mainGlobals "_law_take" = some (some (.ref f__law_take)))
    (l__law_take : K.lookup f__law_take = some ⟨oc__law_take, od__law_take, .func (PySem.W.fnOf "_law_take" "_law_take" (defArgs s__law_take) (defBody s__law_take) (defScope s__law_take) .none kV__law_take dc__law_take pm__law_take an__law_take cd__law_take ct__law_take), sl__law_take⟩)
    (c__law_take : PySem.W.codeIn K cd__law_take "_law_take" = true)
    (k__law_take : PySem.W.keepIn K (.ref f__law_take) = true)
    (g__law_of : PySem.W.nsIn K mainGlobals "_law_of" = some (some (.ref f__law_of)))
    (l__law_of : K.lookup f__law_of = some ⟨oc__law_of, od__law_of, .func (PySem.W.fnOf "_law_of" "_law_of" (defArgs s__law_of) (defBody s__law_of) (defScope s__law_of) .none kV__law_of dc__law_of pm__law_of an__law_of cd__law_of ct__law_of), sl__law_of⟩)
    (c__law_of : PySem.W.codeIn K cd__law_of "_law_of" = true)
    (k__law_of : PySem.W.keepIn K (.ref f__law_of) = true)
    (g__law_places : PySem.W.nsIn K mainGlobals "_law_places" = some (some (.ref f__law_places)))
    (l__law_places : K.lookup f__law_places = some ⟨oc__law_places, od__law_places, .func (PySem.W.fnOf "_law_places" "_law_places" (defArgs s__law_places) (defBody s__law_places) (defScope s__law_places) .none kV__law_places dc__law_places pm__law_places an__law_places cd__law_places ct__law_places), sl__law_places⟩)
    (c__law_places : PySem.W.codeIn K cd__law_places "_law_places" = true)
    (k__law_places : PySem.W.keepIn K (.ref f__law_places) = true)
    (g__law_odd : PySem.W.nsIn K mainGlobals "_law_odd" = some (some (.ref f__law_odd)))
    (l__law_odd : K.lookup f__law_odd = some ⟨oc__law_odd, od__law_odd, .func (PySem.W.fnOf "_law_odd" "_law_odd" (defArgs s__law_odd) (defBody s__law_odd) (defScope s__law_odd) .none kV__law_odd dc__law_odd pm__law_odd an__law_odd cd__law_odd ct__law_odd), sl__law_odd⟩)
    (c__law_odd : PySem.W.codeIn K cd__law_odd "_law_odd" = true)
    (k__law_odd : PySem.W.keepIn K (.ref f__law_odd) = true)
    (g_is_integer : PySem.W.nsIn K mainGlobals "is_integer" = some (some (.ref f_is_integer)))
    (l_is_integer : K.lookup f_is_integer = some ⟨oc_is_integer, od_is_integer, .func (PySem.W.fnOf "is_integer" "is_integer" (defArgs s_is_integer) (defBody s_is_integer) (defScope s_is_integer) .none kV_is_integer dc_is_integer pm_is_integer an_is_integer cd_is_integer ct_is_integer), sl_is_integer⟩)
    (c_is_integer : PySem.W.codeIn K cd_is_integer "is_integer" = true)
    (k_is_integer : PySem.W.keepIn K (.ref f_is_integer) = true)
    (g_is_number : PySem.W.nsIn K mainGlobals "is_number" = some (some (.ref f_is_number)))
    (l_is_number : K.lookup f_is_number = some ⟨oc_is_number, od_is_number, .func (PySem.W.fnOf "is_number" "is_number" (defArgs s_is_number) (defBody s_is_number) (defScope s_is_number) .none kV_is_number dc_is_number pm_is_number an_is_number cd_is_number ct_is_number), sl_is_number⟩)
    (c_is_number : PySem.W.codeIn K cd_is_number "is_number" = true)
    (k_is_number : PySem.W.keepIn K (.ref f_is_number) = true)
    (g_Ratio___init__ : PySem.W.findIn K (.ref C_Ratio) "__init__" = some (some (.ref f_Ratio___init__)))
    (l_Ratio___init__ : K.lookup f_Ratio___init__ = some ⟨oc_Ratio___init__, od_Ratio___init__, .func (PySem.W.fnOf "__init__" "Ratio.__init__" (defArgs s_Ratio___init__) (defBody s_Ratio___init__) (defScope s_Ratio___init__) (.ref dT_Ratio___init__) kV_Ratio___init__ dc_Ratio___init__ pm_Ratio___init__ an_Ratio___init__ cd_Ratio___init__ ct_Ratio___init__), sl_Ratio___init__⟩)
    (c_Ratio___init__ : PySem.W.codeIn K cd_Ratio___init__ "Ratio.__init__" = true)
    (k_Ratio___init__ : PySem.W.keepIn K (.ref f_Ratio___init__) = true)
    (d_Ratio___init__ : K.lookup dT_Ratio___init__ = some ⟨cT_Ratio___init__, eT_Ratio___init__, .seq its_Ratio___init__.toArray mT_Ratio___init__, sT_Ratio___init__⟩)
    (r_Ratio___init__ : Vals [.int 1] its_Ratio___init__)
    (g_as_ratio : PySem.W.nsIn K mainGlobals "as_ratio" = some (some (.ref f_as_ratio)))
    (l_as_ratio : K.lookup f_as_ratio = some ⟨oc_as_ratio, od_as_ratio, .func (PySem.W.fnOf "as_ratio" "as_ratio" (defArgs s_as_ratio) (defBody s_as_ratio) (defScope s_as_ratio) .none kV_as_ratio dc_as_ratio pm_as_ratio an_as_ratio cd_as_ratio ct_as_ratio), sl_as_ratio⟩)
    (c_as_ratio : PySem.W.codeIn K cd_as_ratio "as_ratio" = true)
    (k_as_ratio : PySem.W.keepIn K (.ref f_as_ratio) = true)
    (g_Ratio___eq__ : PySem.W.findIn K (.ref C_Ratio) "__eq__" = some (some (.ref f_Ratio___eq__)))
    (l_Ratio___eq__ : K.lookup f_Ratio___eq__ = some ⟨oc_Ratio___eq__, od_Ratio___eq__, .func (PySem.W.fnOf "__eq__" "Ratio.__eq__" (defArgs s_Ratio___eq__) (defBody s_Ratio___eq__) (defScope s_Ratio___eq__) .none kV_Ratio___eq__ dc_Ratio___eq__ pm_Ratio___eq__ an_Ratio___eq__ cd_Ratio___eq__ ct_Ratio___eq__), sl_Ratio___eq__⟩)
    (c_Ratio___eq__ : PySem.W.codeIn K cd_Ratio___eq__ "Ratio.__eq__" = true)
    (k_Ratio___eq__ : PySem.W.keepIn K (.ref f_Ratio___eq__) = true)
    (g_check_point : PySem.W.nsIn K mainGlobals "check_point" = some (some (.ref f_check_point)))
    (l_check_point : K.lookup f_check_point = some ⟨oc_check_point, od_check_point, .func (PySem.W.fnOf "check_point" "check_point" (defArgs s_check_point) (defBody s_check_point) (defScope s_check_point) .none kV_check_point dc_check_point pm_check_point an_check_point cd_check_point ct_check_point), sl_check_point⟩)
    (c_check_point : PySem.W.codeIn K cd_check_point "check_point" = true)
    (k_check_point : PySem.W.keepIn K (.ref f_check_point) = true)
    (g_Point___init__ : PySem.W.findIn K (.ref C_Point) "__init__" = some (some (.ref f_Point___init__)))
    (l_Point___init__ : K.lookup f_Point___init__ = some ⟨oc_Point___init__, od_Point___init__, .func (PySem.W.fnOf "__init__" "Point.__init__" (defArgs s_Point___init__) (defBody s_Point___init__) (defScope s_Point___init__) .none kV_Point___init__ dc_Point___init__ pm_Point___init__ an_Point___init__ cd_Point___init__ ct_Point___init__), sl_Point___init__⟩)
    (c_Point___init__ : PySem.W.codeIn K cd_Point___init__ "Point.__init__" = true)
    (k_Point___init__ : PySem.W.keepIn K (.ref f_Point___init__) = true)
    (g_Point___eq__ : PySem.W.findIn K (.ref C_Point) "__eq__" = some (some (.ref f_Point___eq__)))
    (l_Point___eq__ : K.lookup f_Point___eq__ = some ⟨oc_Point___eq__, od_Point___eq__, .func (PySem.W.fnOf "__eq__" "Point.__eq__" (defArgs s_Point___eq__) (defBody s_Point___eq__) (defScope s_Point___eq__) .none kV_Point___eq__ dc_Point___eq__ pm_Point___eq__ an_Point___eq__ cd_Point___eq__ ct_Point___eq__), sl_Point___eq__⟩)
    (c_Point___eq__ : PySem.W.codeIn K cd_Point___eq__ "Point.__eq__" = true)
    (k_Point___eq__ : PySem.W.keepIn K (.ref f_Point___eq__) = true)
    (g_Line___init__ : PySem.W.findIn K (.ref C_Line) "__init__" = some (some (.ref f_Line___init__)))
    (l_Line___init__ : K.lookup f_Line___init__ = some ⟨oc_Line___init__, od_Line___init__, .func (PySem.W.fnOf "__init__" "Line.__init__" (defArgs s_Line___init__) (defBody s_Line___init__) (defScope s_Line___init__) .none kV_Line___init__ dc_Line___init__ pm_Line___init__ an_Line___init__ cd_Line___init__ ct_Line___init__), sl_Line___init__⟩)
    (c_Line___init__ : PySem.W.codeIn K cd_Line___init__ "Line.__init__" = true)
    (k_Line___init__ : PySem.W.keepIn K (.ref f_Line___init__) = true)
    (g_Line___eq__ : PySem.W.findIn K (.ref C_Line) "__eq__" = some (some (.ref f_Line___eq__)))
    (l_Line___eq__ : K.lookup f_Line___eq__ = some ⟨oc_Line___eq__, od_Line___eq__, .func (PySem.W.fnOf "__eq__" "Line.__eq__" (defArgs s_Line___eq__) (defBody s_Line___eq__) (defScope s_Line___eq__) .none kV_Line___eq__ dc_Line___eq__ pm_Line___eq__ an_Line___eq__ cd_Line___eq__ ct_Line___eq__), sl_Line___eq__⟩)
    (c_Line___eq__ : PySem.W.codeIn K cd_Line___eq__ "Line.__eq__" = true)
    (k_Line___eq__ : PySem.W.keepIn K (.ref f_Line___eq__) = true)
    (g__is_corner : PySem.W.nsIn K mainGlobals "_is_corner" = some (some (.ref f__is_corner)))
    (l__is_corner : K.lookup f__is_corner = some ⟨oc__is_corner, od__is_corner, .func (PySem.W.fnOf "_is_corner" "_is_corner" (defArgs s__is_corner) (defBody s__is_corner) (defScope s__is_corner) .none kV__is_corner dc__is_corner pm__is_corner an__is_corner cd__is_corner ct__is_corner), sl__is_corner⟩)
    (c__is_corner : PySem.W.codeIn K cd__is_corner "_is_corner" = true)
    (k__is_corner : PySem.W.keepIn K (.ref f__is_corner) = true)
    (g_line_through : PySem.W.nsIn K mainGlobals "line_through" = some (some (.ref f_line_through)))
    (l_line_through : K.lookup f_line_through = some ⟨oc_line_through, od_line_through, .func (PySem.W.fnOf "line_through" "line_through" (defArgs s_line_through) (defBody s_line_through) (defScope s_line_through) .none kV_line_through dc_line_through pm_line_through an_line_through cd_line_through ct_line_through), sl_line_through⟩)
    (c_line_through : PySem.W.codeIn K cd_line_through "line_through" = true)
    (k_line_through : PySem.W.keepIn K (.ref f_line_through) = true)
    (g_spot_of : PySem.W.nsIn K mainGlobals "spot_of" = some (some (.ref f_spot_of)))
    (l_spot_of : K.lookup f_spot_of = some ⟨oc_spot_of, od_spot_of, .func (PySem.W.fnOf "spot_of" "spot_of" (defArgs s_spot_of) (defBody s_spot_of) (defScope s_spot_of) .none kV_spot_of dc_spot_of pm_spot_of an_spot_of cd_spot_of ct_spot_of), sl_spot_of⟩)
    (c_spot_of : PySem.W.codeIn K cd_spot_of "spot_of" = true)
    (k_spot_of : PySem.W.keepIn K (.ref f_spot_of) = true)
    (g_heights_at : PySem.W.nsIn K mainGlobals "heights_at" = some (some (.ref f_heights_at)))
    (l_heights_at : K.lookup f_heights_at = some ⟨oc_heights_at, od_heights_at, .func (PySem.W.fnOf "heights_at" "heights_at" (defArgs s_heights_at) (defBody s_heights_at) (defScope s_heights_at) .none kV_heights_at dc_heights_at pm_heights_at an_heights_at cd_heights_at ct_heights_at), sl_heights_at⟩)
    (c_heights_at : PySem.W.codeIn K cd_heights_at "heights_at" = true)
    (k_heights_at : PySem.W.keepIn K (.ref f_heights_at) = true)
    (g__with_next : PySem.W.nsIn K mainGlobals "_with_next" = some (some (.ref f__with_next)))
    (l__with_next : K.lookup f__with_next = some ⟨oc__with_next, od__with_next, .func (PySem.W.fnOf "_with_next" "_with_next" (defArgs s__with_next) (defBody s__with_next) (defScope s__with_next) .none kV__with_next dc__with_next pm__with_next an__with_next cd__with_next ct__with_next), sl__with_next⟩)
    (c__with_next : PySem.W.codeIn K cd__with_next "_with_next" = true)
    (k__with_next : PySem.W.keepIn K (.ref f__with_next) = true)
    (g__borders : PySem.W.nsIn K mainGlobals "_borders" = some (some (.ref f__borders)))
    (l__borders : K.lookup f__borders = some ⟨oc__borders, od__borders, .func (PySem.W.fnOf "_borders" "_borders" (defArgs s__borders) (defBody s__borders) (defScope s__borders) .none kV__borders dc__borders pm__borders an__borders cd__borders ct__borders), sl__borders⟩)
    (c__borders : PySem.W.codeIn K cd__borders "_borders" = true)
    (k__borders : PySem.W.keepIn K (.ref f__borders) = true)
    (g__goes_round_once : PySem.W.nsIn K mainGlobals "_goes_round_once" = some (some (.ref f__goes_round_once)))
    (l__goes_round_once : K.lookup f__goes_round_once = some ⟨oc__goes_round_once, od__goes_round_once, .func (PySem.W.fnOf "_goes_round_once" "_goes_round_once" (defArgs s__goes_round_once) (defBody s__goes_round_once) (defScope s__goes_round_once) .none kV__goes_round_once dc__goes_round_once pm__goes_round_once an__goes_round_once cd__goes_round_once ct__goes_round_once), sl__goes_round_once⟩)
    (c__goes_round_once : PySem.W.codeIn K cd__goes_round_once "_goes_round_once" = true)
    (k__goes_round_once : PySem.W.keepIn K (.ref f__goes_round_once) = true)
    (g_Land___init__ : PySem.W.findIn K (.ref C_Land) "__init__" = some (some (.ref f_Land___init__)))
    (l_Land___init__ : K.lookup f_Land___init__ = some ⟨oc_Land___init__, od_Land___init__, .func (PySem.W.fnOf "__init__" "Land.__init__" (defArgs s_Land___init__) (defBody s_Land___init__) (defScope s_Land___init__) .none kV_Land___init__ dc_Land___init__ pm_Land___init__ an_Land___init__ cd_Land___init__ ct_Land___init__), sl_Land___init__⟩)
    (c_Land___init__ : PySem.W.codeIn K cd_Land___init__ "Land.__init__" = true)
    (k_Land___init__ : PySem.W.keepIn K (.ref f_Land___init__) = true)
    (g_Land___contains__ : PySem.W.findIn K (.ref C_Land) "__contains__" = some (some (.ref f_Land___contains__)))
    (l_Land___contains__ : K.lookup f_Land___contains__ = some ⟨oc_Land___contains__, od_Land___contains__, .func (PySem.W.fnOf "__contains__" "Land.__contains__" (defArgs s_Land___contains__) (defBody s_Land___contains__) (defScope s_Land___contains__) .none kV_Land___contains__ dc_Land___contains__ pm_Land___contains__ an_Land___contains__ cd_Land___contains__ ct_Land___contains__), sl_Land___contains__⟩)
    (c_Land___contains__ : PySem.W.codeIn K cd_Land___contains__ "Land.__contains__" = true)
    (k_Land___contains__ : PySem.W.keepIn K (.ref f_Land___contains__) = true)
    (g_Land___eq__ : PySem.W.findIn K (.ref C_Land) "__eq__" = some (some (.ref f_Land___eq__)))
    (l_Land___eq__ : K.lookup f_Land___eq__ = some ⟨oc_Land___eq__, od_Land___eq__, .func (PySem.W.fnOf "__eq__" "Land.__eq__" (defArgs s_Land___eq__) (defBody s_Land___eq__) (defScope s_Land___eq__) .none kV_Land___eq__ dc_Land___eq__ pm_Land___eq__ an_Land___eq__ cd_Land___eq__ ct_Land___eq__), sl_Land___eq__⟩)
    (c_Land___eq__ : PySem.W.codeIn K cd_Land___eq__ "Land.__eq__" = true)
    (k_Land___eq__ : PySem.W.keepIn K (.ref f_Land___eq__) = true)
    (g__law_some : PySem.W.nsIn K mainGlobals "_law_some" = some (some (.ref f__law_some)))
    (l__law_some : K.lookup f__law_some = some ⟨oc__law_some, od__law_some, .func (PySem.W.fnOf "_law_some" "_law_some" (defArgs s__law_some) (defBody s__law_some) (defScope s__law_some) .none kV__law_some dc__law_some pm__law_some an__law_some cd__law_some ct__law_some), sl__law_some⟩)
    (c__law_some : PySem.W.codeIn K cd__law_some "_law_some" = true)
    (k__law_some : PySem.W.keepIn K (.ref f__law_some) = true)
    (g__law_common : PySem.W.nsIn K mainGlobals "_law_common" = some (some (.ref f__law_common)))
    (l__law_common : K.lookup f__law_common = some ⟨oc__law_common, od__law_common, .func (PySem.W.fnOf "_law_common" "_law_common" (defArgs s__law_common) (defBody s__law_common) (defScope s__law_common) .none kV__law_common dc__law_common pm__law_common an__law_common cd__law_common ct__law_common), sl__law_common⟩)
    (c__law_common : PySem.W.codeIn K cd__law_common "_law_common" = true)
    (k__law_common : PySem.W.keepIn K (.ref f__law_common) = true)
    (g__law_height : PySem.W.nsIn K mainGlobals "_law_height" = some (some (.ref f__law_height)))
    (l__law_height : K.lookup f__law_height = some ⟨oc__law_height, od__law_height, .func (PySem.W.fnOf "_law_height" "_law_height" (defArgs s__law_height) (defBody s__law_height) (defScope s__law_height) .none kV__law_height dc__law_height pm__law_height an__law_height cd__law_height ct__law_height), sl__law_height⟩)
    (c__law_height : PySem.W.codeIn K cd__law_height "_law_height" = true)
    (k__law_height : PySem.W.keepIn K (.ref f__law_height) = true)
    (g__law_spot : PySem.W.nsIn K mainGlobals "_law_spot" = some (some (.ref f__law_spot)))
    (l__law_spot : K.lookup f__law_spot = some ⟨oc__law_spot, od__law_spot, .func (PySem.W.fnOf "_law_spot" "_law_spot" (defArgs s__law_spot) (defBody s__law_spot) (defScope s__law_spot) .none kV__law_spot dc__law_spot pm__law_spot an__law_spot cd__law_spot ct__law_spot), sl__law_spot⟩)
    (c__law_spot : PySem.W.codeIn K cd__law_spot "_law_spot" = true)
    (k__law_spot : PySem.W.keepIn K (.ref f__law_spot) = true)
    (g__law_cross : PySem.W.nsIn K mainGlobals "_law_cross" = some (some (.ref f__law_cross)))
    (l__law_cross : K.lookup f__law_cross = some ⟨oc__law_cross, od__law_cross, .func (PySem.W.fnOf "_law_cross" "_law_cross" (defArgs s__law_cross) (defBody s__law_cross) (defScope s__law_cross) .none kV__law_cross dc__law_cross pm__law_cross an__law_cross cd__law_cross ct__law_cross), sl__law_cross⟩)
    (c__law_cross : PySem.W.codeIn K cd__law_cross "_law_cross" = true)
    (k__law_cross : PySem.W.keepIn K (.ref f__law_cross) = true)
    (g__law_made_point : PySem.W.nsIn K mainGlobals "_law_made_point" = some (some (.ref f__law_made_point)))
    (l__law_made_point : K.lookup f__law_made_point = some ⟨oc__law_made_point, od__law_made_point, .func (PySem.W.fnOf "_law_made_point" "_law_made_point" (defArgs s__law_made_point) (defBody s__law_made_point) (defScope s__law_made_point) .none kV__law_made_point dc__law_made_point pm__law_made_point an__law_made_point cd__law_made_point ct__law_made_point), sl__law_made_point⟩)
    (c__law_made_point : PySem.W.codeIn K cd__law_made_point "_law_made_point" = true)
    (k__law_made_point : PySem.W.keepIn K (.ref f__law_made_point) = true)
    (g__law_fits : PySem.W.nsIn K mainGlobals "_law_fits" = some (some (.ref f__law_fits)))
    (l__law_fits : K.lookup f__law_fits = some ⟨oc__law_fits, od__law_fits, .func (PySem.W.fnOf "_law_fits" "_law_fits" (defArgs s__law_fits) (defBody s__law_fits) (defScope s__law_fits) .none kV__law_fits dc__law_fits pm__law_fits an__law_fits cd__law_fits ct__law_fits), sl__law_fits⟩)
    (c__law_fits : PySem.W.codeIn K cd__law_fits "_law_fits" = true)
    (k__law_fits : PySem.W.keepIn K (.ref f__law_fits) = true)
    (g__law_lines : PySem.W.nsIn K mainGlobals "_law_lines" = some (some (.ref f__law_lines)))
    (l__law_lines : K.lookup f__law_lines = some ⟨oc__law_lines, od__law_lines, .func (PySem.W.fnOf "_law_lines" "_law_lines" (defArgs s__law_lines) (defBody s__law_lines) (defScope s__law_lines) .none kV__law_lines dc__law_lines pm__law_lines an__law_lines cd__law_lines ct__law_lines), sl__law_lines⟩)
    (c__law_lines : PySem.W.codeIn K cd__law_lines "_law_lines" = true)
    (k__law_lines : PySem.W.keepIn K (.ref f__law_lines) = true)
    (g__law_marks : PySem.W.nsIn K mainGlobals "_law_marks" = some (some (.ref f__law_marks)))
    (l__law_marks : K.lookup f__law_marks = some ⟨oc__law_marks, od__law_marks, .func (PySem.W.fnOf "_law_marks" "_law_marks" (defArgs s__law_marks) (defBody s__law_marks) (defScope s__law_marks) .none kV__law_marks dc__law_marks pm__law_marks an__law_marks cd__law_marks ct__law_marks), sl__law_marks⟩)
    (c__law_marks : PySem.W.codeIn K cd__law_marks "_law_marks" = true)
    (k__law_marks : PySem.W.keepIn K (.ref f__law_marks) = true)
    (g__law_drawn_spot : PySem.W.nsIn K mainGlobals "_law_drawn_spot" = some (some (.ref f__law_drawn_spot)))
    (l__law_drawn_spot : K.lookup f__law_drawn_spot = some ⟨oc__law_drawn_spot, od__law_drawn_spot, .func (PySem.W.fnOf "_law_drawn_spot" "_law_drawn_spot" (defArgs s__law_drawn_spot) (defBody s__law_drawn_spot) (defScope s__law_drawn_spot) .none kV__law_drawn_spot dc__law_drawn_spot pm__law_drawn_spot an__law_drawn_spot cd__law_drawn_spot ct__law_drawn_spot), sl__law_drawn_spot⟩)
    (c__law_drawn_spot : PySem.W.codeIn K cd__law_drawn_spot "_law_drawn_spot" = true)
    (k__law_drawn_spot : PySem.W.keepIn K (.ref f__law_drawn_spot) = true)
    (g__law_hull : PySem.W.nsIn K mainGlobals "_law_hull" = some (some (.ref f__law_hull)))
    (l__law_hull : K.lookup f__law_hull = some ⟨oc__law_hull, od__law_hull, .func (PySem.W.fnOf "_law_hull" "_law_hull" (defArgs s__law_hull) (defBody s__law_hull) (defScope s__law_hull) .none kV__law_hull dc__law_hull pm__law_hull an__law_hull cd__law_hull ct__law_hull), sl__law_hull⟩)
    (c__law_hull : PySem.W.codeIn K cd__law_hull "_law_hull" = true)
    (k__law_hull : PySem.W.keepIn K (.ref f__law_hull) = true)
    (g__law_corners : PySem.W.nsIn K mainGlobals "_law_corners" = some (some (.ref f__law_corners)))
    (l__law_corners : K.lookup f__law_corners = some ⟨oc__law_corners, od__law_corners, .func (PySem.W.fnOf "_law_corners" "_law_corners" (defArgs s__law_corners) (defBody s__law_corners) (defScope s__law_corners) .none kV__law_corners dc__law_corners pm__law_corners an__law_corners cd__law_corners ct__law_corners), sl__law_corners⟩)
    (c__law_corners : PySem.W.codeIn K cd__law_corners "_law_corners" = true)
    (k__law_corners : PySem.W.keepIn K (.ref f__law_corners) = true)
    (g__law_is_int : PySem.W.nsIn K mainGlobals "_law_is_int" = some (some (.ref f__law_is_int)))
    (l__law_is_int : K.lookup f__law_is_int = some ⟨oc__law_is_int, od__law_is_int, .func (PySem.W.fnOf "_law_is_int" "_law_is_int" (defArgs s__law_is_int) (defBody s__law_is_int) (defScope s__law_is_int) .none kV__law_is_int dc__law_is_int pm__law_is_int an__law_is_int cd__law_is_int ct__law_is_int), sl__law_is_int⟩)
    (c__law_is_int : PySem.W.codeIn K cd__law_is_int "_law_is_int" = true)
    (k__law_is_int : PySem.W.keepIn K (.ref f__law_is_int) = true)
    (g__law_edges : PySem.W.nsIn K mainGlobals "_law_edges" = some (some (.ref f__law_edges)))
    (l__law_edges : K.lookup f__law_edges = some ⟨oc__law_edges, od__law_edges, .func (PySem.W.fnOf "_law_edges" "_law_edges" (defArgs s__law_edges) (defBody s__law_edges) (defScope s__law_edges) .none kV__law_edges dc__law_edges pm__law_edges an__law_edges cd__law_edges ct__law_edges), sl__law_edges⟩)
    (c__law_edges : PySem.W.codeIn K cd__law_edges "_law_edges" = true)
    (k__law_edges : PySem.W.keepIn K (.ref f__law_edges) = true)
    (g__law_is_within : PySem.W.nsIn K mainGlobals "_law_is_within" = some (some (.ref f__law_is_within)))
    (l__law_is_within : K.lookup f__law_is_within = some ⟨oc__law_is_within, od__law_is_within, .func (PySem.W.fnOf "_law_is_within" "_law_is_within" (defArgs s__law_is_within) (defBody s__law_is_within) (defScope s__law_is_within) .none kV__law_is_within dc__law_is_within pm__law_is_within an__law_is_within cd__law_is_within ct__law_is_within), sl__law_is_within⟩)
    (c__law_is_within : PySem.W.codeIn K cd__law_is_within "_law_is_within" = true)
    (k__law_is_within : PySem.W.keepIn K (.ref f__law_is_within) = true)
    (g__law_is_land : PySem.W.nsIn K mainGlobals "_law_is_land" = some (some (.ref f__law_is_land)))
    (l__law_is_land : K.lookup f__law_is_land = some ⟨oc__law_is_land, od__law_is_land, .func (PySem.W.fnOf "_law_is_land" "_law_is_land" (defArgs s__law_is_land) (defBody s__law_is_land) (defScope s__law_is_land) .none kV__law_is_land dc__law_is_land pm__law_is_land an__law_is_land cd__law_is_land ct__law_is_land), sl__law_is_land⟩)
    (c__law_is_land : PySem.W.codeIn K cd__law_is_land "_law_is_land" = true)
    (k__law_is_land : PySem.W.keepIn K (.ref f__law_is_land) = true)
    (g__law_edge_dots : PySem.W.nsIn K mainGlobals "_law_edge_dots" = some (some (.ref f__law_edge_dots)))
    (l__law_edge_dots : K.lookup f__law_edge_dots = some ⟨oc__law_edge_dots, od__law_edge_dots, .func (PySem.W.fnOf "_law_edge_dots" "_law_edge_dots" (defArgs s__law_edge_dots) (defBody s__law_edge_dots) (defScope s__law_edge_dots) .none kV__law_edge_dots dc__law_edge_dots pm__law_edge_dots an__law_edge_dots cd__law_edge_dots ct__law_edge_dots), sl__law_edge_dots⟩)
    (c__law_edge_dots : PySem.W.codeIn K cd__law_edge_dots "_law_edge_dots" = true)
    (k__law_edge_dots : PySem.W.keepIn K (.ref f__law_edge_dots) = true)
    (g__law_bent : PySem.W.nsIn K mainGlobals "_law_bent" = some (some (.ref f__law_bent)))
    (l__law_bent : K.lookup f__law_bent = some ⟨oc__law_bent, od__law_bent, .func (PySem.W.fnOf "_law_bent" "_law_bent" (defArgs s__law_bent) (defBody s__law_bent) (defScope s__law_bent) .none kV__law_bent dc__law_bent pm__law_bent an__law_bent cd__law_bent ct__law_bent), sl__law_bent⟩)
    (c__law_bent : PySem.W.codeIn K cd__law_bent "_law_bent" = true)
    (k__law_bent : PySem.W.keepIn K (.ref f__law_bent) = true)
    (g__law_is_judged : PySem.W.nsIn K mainGlobals "_law_is_judged" = some (some (.ref f__law_is_judged)))
    (l__law_is_judged : K.lookup f__law_is_judged = some ⟨oc__law_is_judged, od__law_is_judged, .func (PySem.W.fnOf "_law_is_judged" "_law_is_judged" (defArgs s__law_is_judged) (defBody s__law_is_judged) (defScope s__law_is_judged) .none kV__law_is_judged dc__law_is_judged pm__law_is_judged an__law_is_judged (.ref cA__law_is_judged) ct__law_is_judged), sl__law_is_judged⟩)
    (c__law_is_judged : PySem.W.codeIn K (.ref cA__law_is_judged) "_law_is_judged" = true)
    (k__law_is_judged : PySem.W.keepIn K (.ref f__law_is_judged) = true)
    (o__law_is_judged : K.lookup cA__law_is_judged = some ⟨eC__law_is_judged, dC__law_is_judged, .fields vC__law_is_judged, sC__law_is_judged⟩)
    (v__law_is_judged : vC__law_is_judged[11]? = some (.ref Pt__law_is_judged))
    (t__law_is_judged : K.lookup Pt__law_is_judged = none)
    (g__law_right : PySem.W.nsIn K mainGlobals "_law_right" = some (some (.ref f__law_right)))
    (l__law_right : K.lookup f__law_right = some ⟨oc__law_right, od__law_right, .func (PySem.W.fnOf "_law_right" "_law_right" (defArgs s__law_right) (defBody s__law_right) (defScope s__law_right) .none kV__law_right dc__law_right pm__law_right an__law_right cd__law_right ct__law_right), sl__law_right⟩)
    (c__law_right : PySem.W.codeIn K cd__law_right "_law_right" = true)
    (k__law_right : PySem.W.keepIn K (.ref f__law_right) = true)
    (g_law : PySem.W.nsIn K mainGlobals "law" = some (some (.ref f_law)))
    (l_law : K.lookup f_law = some ⟨oc_law, od_law, .func (PySem.W.fnOf "law" "law" (defArgs s_law) (defBody s_law) (defScope s_law) .none kV_law dc_law pm_law an_law cd_law ct_law), sl_law⟩)
    (c_law : PySem.W.codeIn K cd_law "law" = true)
    (k_law : PySem.W.keepIn K (.ref f_law) = true)
    (ri1 : PySem.W.findIn K (.ref C_Ratio) "__class__" = some (some (.builtin "object.__class__")))
    (ri4 : PySem.W.mroIn K C_Ratio (.type "object") = some true)
    (ri5 : PySem.W.kitOne K (.ref C_Ratio) (.type "int") = some false)
    (ri6 : PySem.W.kitOne K (.ref C_Ratio) (.type "bool") = some false)
    (ri7 : PySem.W.kitOne K (.ref C_Ratio) (.ref C_Ratio) = some true)
    (ri8 : (["int", "bool", "NoneType", "str", "tuple", "list", "dict"] : List String).all (fun t => decide (PySem.W.kitOne K (.type t) (.ref C_Ratio) = some false)) = true)
    (cl1 : PySem.W.plainGet K C_Ratio Str.empty = true)
    (cl2 : PySem.W.hasDictIn K C_Ratio = true)
    (cl3 : PySem.W.plainOver K C_Ratio = true)
    (cl4 : PySem.W.findIn K (.ref C_Ratio) "__setattr__" = some (some (.builtin "object.__setattr__")))
    (mk1 : PySem.W.makesIn K C_Ratio = true)
    (mk2 : PySem.W.keepIn K (.ref C_Ratio) = true)
    (mk3 : PySem.W.isFn K (.ref f_Ratio___init__) = true)
    (eq1 : PySem.W.isFn K (.ref f_Ratio___eq__) = true)
    (eq2 : PySem.W.findIn K (.ref C_Ratio) "__ne__" = some (some (.builtin "object.__ne__")))
    (eq3 : (["int", "str", "tuple"] : List String).all (fun t => PySem.W.notFirst K C_Ratio (.type t)) = true)
    (ri1P : PySem.W.findIn K (.ref C_Point) "__class__" = some (some (.builtin "object.__class__")))
    (ri4P : PySem.W.mroIn K C_Point (.type "object") = some true)
    (ri5P : PySem.W.kitOne K (.ref C_Point) (.type "int") = some false)
    (ri6P : PySem.W.kitOne K (.ref C_Point) (.type "bool") = some false)
    (ri7P : PySem.W.kitOne K (.ref C_Point) (.ref C_Point) = some true)
    (ri8P : (["int", "bool", "NoneType", "str", "tuple", "list", "dict"] : List String).all (fun t => decide (PySem.W.kitOne K (.type t) (.ref C_Point) = some false)) = true)
    (cl1P : PySem.W.plainGet K C_Point Str.empty = true)
    (cl2P : PySem.W.hasDictIn K C_Point = true)
    (cl3P : PySem.W.plainOver K C_Point = true)
    (cl4P : PySem.W.findIn K (.ref C_Point) "__setattr__" = some (some (.builtin "object.__setattr__")))
    (mk1P : PySem.W.makesIn K C_Point = true)
    (mk2P : PySem.W.keepIn K (.ref C_Point) = true)
    (mk3P : PySem.W.isFn K (.ref f_Point___init__) = true)
    (eq1P : PySem.W.isFn K (.ref f_Point___eq__) = true)
    (eq2P : PySem.W.findIn K (.ref C_Point) "__ne__" = some (some (.builtin "object.__ne__")))
    (eq3P : (["int", "str", "tuple"] : List String).all (fun t => PySem.W.notFirst K C_Point (.type t)) = true)
    (ri1L : PySem.W.findIn K (.ref C_Line) "__class__" = some (some (.builtin "object.__class__")))
    (ri4L : PySem.W.mroIn K C_Line (.type "object") = some true)
    (ri5L : PySem.W.kitOne K (.ref C_Line) (.type "int") = some false)
    (ri6L : PySem.W.kitOne K (.ref C_Line) (.type "bool") = some false)
    (ri7L : PySem.W.kitOne K (.ref C_Line) (.ref C_Line) = some true)
    (ri8L : (["int", "bool", "NoneType", "str", "tuple", "list", "dict"] : List String).all (fun t => decide (PySem.W.kitOne K (.type t) (.ref C_Line) = some false)) = true)
    (cl1L : PySem.W.plainGet K C_Line Str.empty = true)
    (cl2L : PySem.W.hasDictIn K C_Line = true)
    (cl3L : PySem.W.plainOver K C_Line = true)
    (cl4L : PySem.W.findIn K (.ref C_Line) "__setattr__" = some (some (.builtin "object.__setattr__")))
    (mk1L : PySem.W.makesIn K C_Line = true)
    (mk2L : PySem.W.keepIn K (.ref C_Line) = true)
    (mk3L : PySem.W.isFn K (.ref f_Line___init__) = true)
    (eq1L : PySem.W.isFn K (.ref f_Line___eq__) = true)
    (eq2L : PySem.W.findIn K (.ref C_Line) "__ne__" = some (some (.builtin "object.__ne__")))
    (eq3L : (["int", "str", "tuple"] : List String).all (fun t => PySem.W.notFirst K C_Line (.type t)) = true)
    (ri1D : PySem.W.findIn K (.ref C_Land) "__class__" = some (some (.builtin "object.__class__")))
    (ri4D : PySem.W.mroIn K C_Land (.type "object") = some true)
    (ri5D : PySem.W.kitOne K (.ref C_Land) (.type "int") = some false)
    (ri6D : PySem.W.kitOne K (.ref C_Land) (.type "bool") = some false)
    (ri7D : PySem.W.kitOne K (.ref C_Land) (.ref C_Land) = some true)
    (ri8D : (["int", "bool", "NoneType", "str", "tuple", "list", "dict"] : List String).all (fun t => decide (PySem.W.kitOne K (.type t) (.ref C_Land) = some false)) = true)
    (cl1D : PySem.W.plainGet K C_Land Str.empty = true)
    (cl2D : PySem.W.hasDictIn K C_Land = true)
    (cl3D : PySem.W.plainOver K C_Land = true)
    (cl4D : PySem.W.findIn K (.ref C_Land) "__setattr__" = some (some (.builtin "object.__setattr__")))
    (mk1D : PySem.W.makesIn K C_Land = true)
    (mk2D : PySem.W.keepIn K (.ref C_Land) = true)
    (mk3D : PySem.W.isFn K (.ref f_Land___init__) = true)
    (eq1D : PySem.W.isFn K (.ref f_Land___eq__) = true)
    (eq2D : PySem.W.findIn K (.ref C_Land) "__ne__" = some (some (.builtin "object.__ne__")))
    (eq3D : (["int", "str", "tuple"] : List String).all (fun t => PySem.W.notFirst K C_Land (.type t)) = true)
    (nN : PySem.W.findIn K (.ref C_Ratio) "number" = some none)
    (nU : PySem.W.findIn K (.ref C_Ratio) "under" = some none)
    (nX : PySem.W.findIn K (.ref C_Point) "x" = some none)
    (nY : PySem.W.findIn K (.ref C_Point) "y" = some none)
    (nA : PySem.W.findIn K (.ref C_Line) "one" = some none)
    (nB : PySem.W.findIn K (.ref C_Line) "other" = some none)
    (nC : PySem.W.findIn K (.ref C_Land) "corners" = some none)
    (nE : PySem.W.findIn K (.ref C_Land) "edges" = some none)
    (nBo : PySem.W.findIn K (.ref C_Land) "borders" = some none)
    (rPL : PySem.W.kitOne K (.ref C_Point) (.ref C_Line) = some false)
    (rDP : PySem.W.kitOne K (.ref C_Land) (.ref C_Point) = some false)
    (conF : PySem.W.isFn K (.ref f_Land___contains__) = true)
    (xBBadLand : PySem.W.exmOne K (.ref C_BadLand) (.ref C_AboutError) = some true)
    (tBBadLand : PySem.W.kitOne K (.ref C_BadLand) (.ref C_BadLand) = some true) :
    LawT P w K 18 63 "_law_script" mg fa h := by
  have e := hfa.symm.trans (PySem.W.mg_of X G g_law)
  cases e
  let a : Ad := ⟨f_init, C_AboutError, C_BadLand, C_Ratio, C_Point, C_Line, C_Land, f__law_pot, f__law_take, f__law_of, f__law_some, f__law_places, f__law_told, f__law_is_int, f__law_odd, f__law_bent, f__law_common, f__law_height, f__law_marks, f__law_fits, f__law_lines, f__law_cross, f__law_spot, f__law_drawn_spot, f__law_made_point, f__law_hull, f__law_corners, f__law_edges, f__law_is_within, f__law_is_land, f__law_is_judged, f__law_edge_dots, f__law_right, fa, f_is_integer, f_is_number, f_as_ratio, f_check_point, f_line_through, f_spot_of, f_heights_at, f__is_corner, f__with_next, f__borders, f__goes_round_once, f_Ratio___init__, f_Ratio___eq__, f_Point___init__, f_Point___eq__, f_Line___init__, f_Line___eq__, f_Land___init__, f_Land___contains__, f_Land___eq__⟩
  have eb1 : ∀ C ∈ [C_AboutError, C_BadLand], ecB K f_init C = true := List.all_eq_true.mp eb
  have e_AboutError := ecB_ok (eb1 C_AboutError (by simp)) ⟨_, _, _, _, _, _, _, _, _, _, _, _, _, _, _, x_AboutError, by rfl⟩
  have e_BadLand := ecB_ok (eb1 C_BadLand (by simp)) ⟨_, _, _, _, _, _, _, _, _, _, _, _, _, _, _, x_BadLand, by rfl⟩
  have T : Txt K mg a := {
    n_abs := PySem.W.mg_none_of X G n_abs
    n_all := PySem.W.mg_none_of X G n_all
    n_any := PySem.W.mg_none_of X G n_any
    n_bool := PySem.W.mg_none_of X G n_bool
    n_enumerate := PySem.W.mg_none_of X G n_enumerate
    n_int := PySem.W.mg_none_of X G n_int
    n_isinstance := PySem.W.mg_none_of X G n_isinstance
    n_len := PySem.W.mg_none_of X G n_len
    n_list := PySem.W.mg_none_of X G n_list
    n_max := PySem.W.mg_none_of X G n_max
    n_min := PySem.W.mg_none_of X G n_min
    n_range := PySem.W.mg_none_of X G n_range
    n_repr := PySem.W.mg_none_of X G n_repr
    n_set := PySem.W.mg_none_of X G n_set
    n_sorted := PySem.W.mg_none_of X G n_sorted
    n_str := PySem.W.mg_none_of X G n_str
    n_sum := PySem.W.mg_none_of X G n_sum
    n_tuple := PySem.W.mg_none_of X G n_tuple
    n_zip := PySem.W.mg_none_of X G n_zip
    g__law_pot := PySem.W.mg_of X G g__law_pot
    k__law_pot := k__law_pot
    g__law_take := PySem.W.mg_of X G g__law_take
    k__law_take := k__law_take
    g__law_of := PySem.W.mg_of X G g__law_of
    k__law_of := k__law_of
    g__law_places := PySem.W.mg_of X G g__law_places
    k__law_places := k__law_places
    g__law_odd := PySem.W.mg_of X G g__law_odd
    k__law_odd := k__law_odd
    g_is_integer := PySem.W.mg_of X G g_is_integer
    k_is_integer := k_is_integer
    g_is_number := PySem.W.mg_of X G g_is_number
    k_is_number := k_is_number
    g_as_ratio := PySem.W.mg_of X G g_as_ratio
    k_as_ratio := k_as_ratio
    g_check_point := PySem.W.mg_of X G g_check_point
    k_check_point := k_check_point
    g__is_corner := PySem.W.mg_of X G g__is_corner
    k__is_corner := k__is_corner
    g_line_through := PySem.W.mg_of X G g_line_through
    k_line_through := k_line_through
    g_spot_of := PySem.W.mg_of X G g_spot_of
    k_spot_of := k_spot_of
    g_heights_at := PySem.W.mg_of X G g_heights_at
    k_heights_at := k_heights_at
    g__with_next := PySem.W.mg_of X G g__with_next
    k__with_next := k__with_next
    g__borders := PySem.W.mg_of X G g__borders
    k__borders := k__borders
    g__goes_round_once := PySem.W.mg_of X G g__goes_round_once
    k__goes_round_once := k__goes_round_once
    g__law_some := PySem.W.mg_of X G g__law_some
    k__law_some := k__law_some
    g__law_common := PySem.W.mg_of X G g__law_common
    k__law_common := k__law_common
    g__law_height := PySem.W.mg_of X G g__law_height
    k__law_height := k__law_height
    g__law_spot := PySem.W.mg_of X G g__law_spot
    k__law_spot := k__law_spot
    g__law_cross := PySem.W.mg_of X G g__law_cross
    k__law_cross := k__law_cross
    g__law_made_point := PySem.W.mg_of X G g__law_made_point
    k__law_made_point := k__law_made_point
    g__law_fits := PySem.W.mg_of X G g__law_fits
    k__law_fits := k__law_fits
    g__law_lines := PySem.W.mg_of X G g__law_lines
    k__law_lines := k__law_lines
    g__law_marks := PySem.W.mg_of X G g__law_marks
    k__law_marks := k__law_marks
    g__law_drawn_spot := PySem.W.mg_of X G g__law_drawn_spot
    k__law_drawn_spot := k__law_drawn_spot
    g__law_hull := PySem.W.mg_of X G g__law_hull
    k__law_hull := k__law_hull
    g__law_corners := PySem.W.mg_of X G g__law_corners
    k__law_corners := k__law_corners
    g__law_is_int := PySem.W.mg_of X G g__law_is_int
    k__law_is_int := k__law_is_int
    g__law_edges := PySem.W.mg_of X G g__law_edges
    k__law_edges := k__law_edges
    g__law_is_within := PySem.W.mg_of X G g__law_is_within
    k__law_is_within := k__law_is_within
    g__law_is_land := PySem.W.mg_of X G g__law_is_land
    k__law_is_land := k__law_is_land
    g__law_edge_dots := PySem.W.mg_of X G g__law_edge_dots
    k__law_edge_dots := k__law_edge_dots
    g__law_bent := PySem.W.mg_of X G g__law_bent
    k__law_bent := k__law_bent
    g__law_is_judged := PySem.W.mg_of X G g__law_is_judged
    k__law_is_judged := k__law_is_judged
    g__law_right := PySem.W.mg_of X G g__law_right
    k__law_right := k__law_right
    g_law := PySem.W.mg_of X G g_law
    k_law := k_law
    g_AboutError := PySem.W.mg_of X G g_AboutError
    tI := tI
    ek := ⟨sp, tk⟩
    g_BadLand := PySem.W.mg_of X G g_BadLand
    c_BadLand := e_BadLand.1
    i_BadLand := e_BadLand.2
    x_BadLand := xBBadLand
    t_BadLand := tBBadLand
    g_gcd := PySem.W.mg_of X G gG
    g_FAR := ⟨tF, PySem.W.mg_of X G gF⟩
    g_Ratio := PySem.W.mg_of X G g_Ratio
    m_Ratio := ⟨mk1, g_Ratio___init__, mk3, mk2⟩
    cl := ⟨cl1, cl2, cl3, cl4⟩
    ri := ⟨ri1, sp, tk, ri4, ri5, ri6, ri7, fun t ht => of_decide_eq_true (List.all_eq_true.mp ri8 t ht)⟩
    eqc := ⟨g_Ratio___eq__, eq1, eq2, ri4, fun t ht => List.all_eq_true.mp eq3 t (by simpa [or_assoc] using ht)⟩
    g_Point := PySem.W.mg_of X G g_Point
    m_Point := ⟨mk1P, g_Point___init__, mk3P, mk2P⟩
    clP := ⟨cl1P, cl2P, cl3P, cl4P⟩
    riP := ⟨ri1P, sp, tk, ri4P, ri5P, ri6P, ri7P, fun t ht => of_decide_eq_true (List.all_eq_true.mp ri8P t ht)⟩
    eqP := ⟨g_Point___eq__, eq1P, eq2P, ri4P, fun t ht => List.all_eq_true.mp eq3P t (by simpa [or_assoc] using ht)⟩
    g_Line := PySem.W.mg_of X G g_Line
    m_Line := ⟨mk1L, g_Line___init__, mk3L, mk2L⟩
    clL := ⟨cl1L, cl2L, cl3L, cl4L⟩
    riL := ⟨ri1L, sp, tk, ri4L, ri5L, ri6L, ri7L, fun t ht => of_decide_eq_true (List.all_eq_true.mp ri8L t ht)⟩
    eqL := ⟨g_Line___eq__, eq1L, eq2L, ri4L, fun t ht => List.all_eq_true.mp eq3L t (by simpa [or_assoc] using ht)⟩
    g_Land := PySem.W.mg_of X G g_Land
    m_Land := ⟨mk1D, g_Land___init__, mk3D, mk2D⟩
    clD := ⟨cl1D, cl2D, cl3D, cl4D⟩
    riD := ⟨ri1D, sp, tk, ri4D, ri5D, ri6D, ri7D, fun t ht => of_decide_eq_true (List.all_eq_true.mp ri8D t ht)⟩
    eqD := ⟨g_Land___eq__, eq1D, eq2D, ri4D, fun t ht => List.all_eq_true.mp eq3D t (by simpa [or_assoc] using ht)⟩
    nN := nN
    nU := nU
    nX := nX
    nY := nY
    nA := nA
    nB := nB
    nC := nC
    nE := nE
    nBo := nBo
    rPL := rPL
    rDP := rDP
    conA := g_Land___contains__
    conF := conF
    g__law_told := PySem.W.mg_of X G g__law_told
    k__law_told := k__law_told
  }
  have F_init := fun_mk (st := s_init) l_init c_init k_init
  have b_init := F_init.binds (ps := ["self", "value"]) fun _ _ _ _ _ _ us hl => match us, hl with | [_, _], _ => rfl
  have F__law_told := fun_mk (st := s__law_told) l__law_told c__law_told k__law_told
  have b__law_told := F__law_told.binds (ps := ["_law_ask"]) fun _ _ _ _ _ _ us hl => match us, hl with | [_], _ => rfl
  have F__law_pot := fun_mk (st := s__law_pot) l__law_pot c__law_pot k__law_pot
  have b__law_pot := F__law_pot.binds (ps := ["_law_script", "_law_k"]) fun _ _ _ _ _ _ us hl => match us, hl with | [_, _], _ => rfl
  have F__law_take := fun_mk (st := s__law_take) l__law_take c__law_take k__law_take
  have b__law_take := F__law_take.binds (ps := ["_law_pot_here", "_law_upto"]) fun _ _ _ _ _ _ us hl => match us, hl with | [_, _], _ => rfl
  have F__law_of := fun_mk (st := s__law_of) l__law_of c__law_of k__law_of
  have b__law_of := F__law_of.binds (ps := ["_law_pot_here", "_law_some_here"]) fun _ _ _ _ _ _ us hl => match us, hl with | [_, _], _ => rfl
  have F__law_places := fun_mk (st := s__law_places) l__law_places c__law_places k__law_places
  have b__law_places := F__law_places.binds (ps := ["_law_script", "_law_most"]) fun _ _ _ _ _ _ us hl => match us, hl with | [_, _], _ => rfl
  have F__law_odd := fun_mk (st := s__law_odd) l__law_odd c__law_odd k__law_odd
  have b__law_odd := F__law_odd.binds (ps := ["_law_pot_here"]) fun _ _ _ _ _ _ us hl => match us, hl with | [_], _ => rfl
  have F_is_integer := fun_mk (st := s_is_integer) l_is_integer c_is_integer k_is_integer
  have b_is_integer := F_is_integer.binds (ps := ["value"]) fun _ _ _ _ _ _ us hl => match us, hl with | [_], _ => rfl
  have F_is_number := fun_mk (st := s_is_number) l_is_number c_is_number k_is_number
  have b_is_number := F_is_number.binds (ps := ["value"]) fun _ _ _ _ _ _ us hl => match us, hl with | [_], _ => rfl
  have F_Ratio___init__ : FunD K "__init__" "Ratio.__init__" (defArgs s_Ratio___init__) (defBody s_Ratio___init__) (defScope s_Ratio___init__) [.int 1] [] f_Ratio___init__ _ := ⟨⟨_, _, _, _, _, _, _, _, _, _, rfl, l_Ratio___init__, c_Ratio___init__, .inr ⟨by simp, _, _, _, _, rfl, d_Ratio___init__, rfl, r_Ratio___init__⟩, .inl rfl⟩, k_Ratio___init__⟩
  have d_Ratio___init__ := F_Ratio___init__.binds1 (ps := ["self", "number", "under"]) 2 0 (by simp) (by rfl) fun T kV doc pm an cdv ct us its hu hi => match us, its, hu, hi with | [_, _], [_], _, _ => ⟨_, rfl, rfl⟩
  obtain ⟨ds_Ratio___init__, d_Ratio___init__⟩ := d_Ratio___init__
  have b_Ratio___init__ := F_Ratio___init__.binds1 (ps := ["self", "number", "under"]) 3 1 (by simp) (by rfl) fun T kV doc pm an cdv ct us its hu hi => match us, its, hu, hi with | [_, _, _], [_], _, _ => ⟨_, rfl, rfl⟩
  obtain ⟨es_Ratio___init__, v_Ratio___init__, b_Ratio___init__⟩ := b_Ratio___init__
  cases v_Ratio___init__
  have F_as_ratio := fun_mk (st := s_as_ratio) l_as_ratio c_as_ratio k_as_ratio
  have b_as_ratio := F_as_ratio.binds (ps := ["number"]) fun _ _ _ _ _ _ us hl => match us, hl with | [_], _ => rfl
  have F_Ratio___eq__ := fun_mk (st := s_Ratio___eq__) l_Ratio___eq__ c_Ratio___eq__ k_Ratio___eq__
  have b_Ratio___eq__ := F_Ratio___eq__.binds (ps := ["self", "other"]) fun _ _ _ _ _ _ us hl => match us, hl with | [_, _], _ => rfl
  have F_check_point := fun_mk (st := s_check_point) l_check_point c_check_point k_check_point
  have b_check_point := F_check_point.binds (ps := ["value"]) fun _ _ _ _ _ _ us hl => match us, hl with | [_], _ => rfl
  have F_Point___init__ := fun_mk (st := s_Point___init__) l_Point___init__ c_Point___init__ k_Point___init__
  have b_Point___init__ := F_Point___init__.binds (ps := ["self", "x", "y"]) fun _ _ _ _ _ _ us hl => match us, hl with | [_, _, _], _ => rfl
  have F_Point___eq__ := fun_mk (st := s_Point___eq__) l_Point___eq__ c_Point___eq__ k_Point___eq__
  have b_Point___eq__ := F_Point___eq__.binds (ps := ["self", "other"]) fun _ _ _ _ _ _ us hl => match us, hl with | [_, _], _ => rfl
  have F_Line___init__ := fun_mk (st := s_Line___init__) l_Line___init__ c_Line___init__ k_Line___init__
  have b_Line___init__ := F_Line___init__.binds (ps := ["self", "one", "other"]) fun _ _ _ _ _ _ us hl => match us, hl with | [_, _, _], _ => rfl
  have F_Line___eq__ := fun_mk (st := s_Line___eq__) l_Line___eq__ c_Line___eq__ k_Line___eq__
  have b_Line___eq__ := F_Line___eq__.binds (ps := ["self", "other"]) fun _ _ _ _ _ _ us hl => match us, hl with | [_, _], _ => rfl
  have F__is_corner := fun_mk (st := s__is_corner) l__is_corner c__is_corner k__is_corner
  have b__is_corner := F__is_corner.binds (ps := ["value"]) fun _ _ _ _ _ _ us hl => match us, hl with | [_], _ => rfl
  have F_line_through := fun_mk (st := s_line_through) l_line_through c_line_through k_line_through
  have b_line_through := F_line_through.binds (ps := ["x", "y", "to_x", "to_y"]) fun _ _ _ _ _ _ us hl => match us, hl with | [_, _, _, _], _ => rfl
  have F_spot_of := fun_mk (st := s_spot_of) l_spot_of c_spot_of k_spot_of
  have b_spot_of := F_spot_of.binds (ps := ["point"]) fun _ _ _ _ _ _ us hl => match us, hl with | [_], _ => rfl
  have F_heights_at := fun_mk (st := s_heights_at) l_heights_at c_heights_at k_heights_at
  have b_heights_at := F_heights_at.binds (ps := ["lines", "spot"]) fun _ _ _ _ _ _ us hl => match us, hl with | [_, _], _ => rfl
  have F__with_next := fun_mk (st := s__with_next) l__with_next c__with_next k__with_next
  have b__with_next := F__with_next.binds (ps := ["corners"]) fun _ _ _ _ _ _ us hl => match us, hl with | [_], _ => rfl
  have F__borders := fun_mk (st := s__borders) l__borders c__borders k__borders
  have b__borders := F__borders.binds (ps := ["corners"]) fun _ _ _ _ _ _ us hl => match us, hl with | [_], _ => rfl
  have F__goes_round_once := fun_mk (st := s__goes_round_once) l__goes_round_once c__goes_round_once k__goes_round_once
  have b__goes_round_once := F__goes_round_once.binds (ps := ["corners", "borders"]) fun _ _ _ _ _ _ us hl => match us, hl with | [_, _], _ => rfl
  have F_Land___init__ := fun_mk (st := s_Land___init__) l_Land___init__ c_Land___init__ k_Land___init__
  have b_Land___init__ := F_Land___init__.binds (ps := ["self", "corners"]) fun _ _ _ _ _ _ us hl => match us, hl with | [_, _], _ => rfl
  have F_Land___contains__ := fun_mk (st := s_Land___contains__) l_Land___contains__ c_Land___contains__ k_Land___contains__
  have b_Land___contains__ := F_Land___contains__.binds (ps := ["self", "value"]) fun _ _ _ _ _ _ us hl => match us, hl with | [_, _], _ => rfl
  have F_Land___eq__ := fun_mk (st := s_Land___eq__) l_Land___eq__ c_Land___eq__ k_Land___eq__
  have b_Land___eq__ := F_Land___eq__.binds (ps := ["self", "other"]) fun _ _ _ _ _ _ us hl => match us, hl with | [_, _], _ => rfl
  have F__law_some := fun_mk (st := s__law_some) l__law_some c__law_some k__law_some
  have b__law_some := F__law_some.binds (ps := ["_law_pot_here", "_law_pool", "_law_many"]) fun _ _ _ _ _ _ us hl => match us, hl with | [_, _, _], _ => rfl
  have F__law_common := fun_mk (st := s__law_common) l__law_common c__law_common k__law_common
  have b__law_common := F__law_common.binds (ps := ["_law_one", "_law_other"]) fun _ _ _ _ _ _ us hl => match us, hl with | [_, _], _ => rfl
  have F__law_height := fun_mk (st := s__law_height) l__law_height c__law_height k__law_height
  have b__law_height := F__law_height.binds (ps := ["_law_one", "_law_other", "_law_dot"]) fun _ _ _ _ _ _ us hl => match us, hl with | [_, _, _], _ => rfl
  have F__law_spot := fun_mk (st := s__law_spot) l__law_spot c__law_spot k__law_spot
  have b__law_spot := F__law_spot.binds (ps := ["_law_x", "_law_y", "_law_d"]) fun _ _ _ _ _ _ us hl => match us, hl with | [_, _, _], _ => rfl
  have F__law_cross := fun_mk (st := s__law_cross) l__law_cross c__law_cross k__law_cross
  have b__law_cross := F__law_cross.binds (ps := ["_law_one", "_law_other"]) fun _ _ _ _ _ _ us hl => match us, hl with | [_, _], _ => rfl
  have F__law_made_point := fun_mk (st := s__law_made_point) l__law_made_point c__law_made_point k__law_made_point
  have b__law_made_point := F__law_made_point.binds (ps := ["_law_dot"]) fun _ _ _ _ _ _ us hl => match us, hl with | [_], _ => rfl
  have F__law_fits := fun_mk (st := s__law_fits) l__law_fits c__law_fits k__law_fits
  have b__law_fits := F__law_fits.binds (ps := ["_law_found", "_law_dot"]) fun _ _ _ _ _ _ us hl => match us, hl with | [_, _], _ => rfl
  have F__law_lines := fun_mk (st := s__law_lines) l__law_lines c__law_lines k__law_lines
  have b__law_lines := F__law_lines.binds (ps := ["_law_marks_here"]) fun _ _ _ _ _ _ us hl => match us, hl with | [_], _ => rfl
  have F__law_marks := fun_mk (st := s__law_marks) l__law_marks c__law_marks k__law_marks
  have b__law_marks := F__law_marks.binds (ps := ["_law_pot_here", "_law_most"]) fun _ _ _ _ _ _ us hl => match us, hl with | [_, _], _ => rfl
  have F__law_drawn_spot := fun_mk (st := s__law_drawn_spot) l__law_drawn_spot c__law_drawn_spot k__law_drawn_spot
  have b__law_drawn_spot := F__law_drawn_spot.binds (ps := ["_law_pot_here", "_law_marks_here"]) fun _ _ _ _ _ _ us hl => match us, hl with | [_, _], _ => rfl
  have F__law_hull := fun_mk (st := s__law_hull) l__law_hull c__law_hull k__law_hull
  have b__law_hull := F__law_hull.binds (ps := ["_law_places_here"]) fun _ _ _ _ _ _ us hl => match us, hl with | [_], _ => rfl
  have F__law_corners := fun_mk (st := s__law_corners) l__law_corners c__law_corners k__law_corners
  have b__law_corners := F__law_corners.binds (ps := ["_law_pot_here", "_law_marks_here"]) fun _ _ _ _ _ _ us hl => match us, hl with | [_, _], _ => rfl
  have F__law_is_int := fun_mk (st := s__law_is_int) l__law_is_int c__law_is_int k__law_is_int
  have b__law_is_int := F__law_is_int.binds (ps := ["_law_value", "_law_low", "_law_high"]) fun _ _ _ _ _ _ us hl => match us, hl with | [_, _, _], _ => rfl
  have F__law_edges := fun_mk (st := s__law_edges) l__law_edges c__law_edges k__law_edges
  have b__law_edges := F__law_edges.binds (ps := ["_law_corners_here"]) fun _ _ _ _ _ _ us hl => match us, hl with | [_], _ => rfl
  have F__law_is_within := fun_mk (st := s__law_is_within) l__law_is_within c__law_is_within k__law_is_within
  have b__law_is_within := F__law_is_within.binds (ps := ["_law_corners_here", "_law_dot"]) fun _ _ _ _ _ _ us hl => match us, hl with | [_, _], _ => rfl
  have F__law_is_land := fun_mk (st := s__law_is_land) l__law_is_land c__law_is_land k__law_is_land
  have b__law_is_land := F__law_is_land.binds (ps := ["_law_value"]) fun _ _ _ _ _ _ us hl => match us, hl with | [_], _ => rfl
  have F__law_edge_dots := fun_mk (st := s__law_edge_dots) l__law_edge_dots c__law_edge_dots k__law_edge_dots
  have b__law_edge_dots := F__law_edge_dots.binds (ps := ["_law_corners_here"]) fun _ _ _ _ _ _ us hl => match us, hl with | [_], _ => rfl
  have F__law_bent := fun_mk (st := s__law_bent) l__law_bent c__law_bent k__law_bent
  have b__law_bent := F__law_bent.binds (ps := ["_law_pot_here", "_law_value"]) fun _ _ _ _ _ _ us hl => match us, hl with | [_, _], _ => rfl
  have F__law_is_judged := fun_mk (st := s__law_is_judged) l__law_is_judged c__law_is_judged k__law_is_judged
  have b__law_is_judged := F__law_is_judged.binds (ps := ["_law_value"]) fun _ _ _ _ _ _ us hl => match us, hl with | [_], _ => rfl
  have F__law_right := fun_mk (st := s__law_right) l__law_right c__law_right k__law_right
  have b__law_right := F__law_right.binds (ps := ["_law_pot_here"]) fun _ _ _ _ _ _ us hl => match us, hl with | [_], _ => rfl
  have F_law := fun_mk (st := s_law) l_law c_law k_law
  have b_law := F_law.binds (ps := ["_law_script"]) fun _ _ _ _ _ _ us hl => match us, hl with | [_], _ => rfl
  obtain ⟨xf__law_is_judged, xo, xd, c_cd__law_is_judged, xt__law_is_judged, y1, y2, y3, y4, y5__law_is_judged, y6__law_is_judged⟩ := bare__law_is_judged
  rw [PySem.W.mg_of X G g__law_is_judged] at y1
  cases y1
  rw [X _ _ l__law_is_judged] at y2
  cases y2
  cases y3
  cases y4
  have same__law_is_judged : Pt__law_is_judged = xt__law_is_judged := by
    obtain ⟨ob, us, _, _, _, _, _, _, _, z1, _, z3, z4, _⟩ := id y5__law_is_judged
    rw [X _ _ o__law_is_judged] at z1
    cases z1
    cases z3
    rw [v__law_is_judged] at z4
    injection z4 with z5
    injection z5
  rw [← same__law_is_judged] at y5__law_is_judged y6__law_is_judged
  refine ⟨PySem.W.fnOf "law" "law" (defArgs s_law) (defBody s_law) (defScope s_law) .none kV_law dc_law pm_law an_law cd_law ct_law, [(cA__law_is_judged, Pt__law_is_judged)], spLaw K Pt__law_is_judged, ?facts, fun s v => .of_eq rfl, ?told, fun base hK hG TB => ?fn⟩
  case facts =>
    intro p hp
    simp only [List.mem_cons, List.not_mem_nil, or_false] at hp
    rcases hp with rfl
    · exact ⟨y6__law_is_judged, t__law_is_judged, y5__law_is_judged⟩
  case told =>
    intro H b ns hl hT hS
    refine ⟨b, ns, rfl, hS, hl, fun p hp => ?_, fun _ => rfl⟩
    simp only [TT, List.mem_cons, List.not_mem_nil, or_false] at hp
    rcases hp with rfl
    exact TabS.nil (hT (cA__law_is_judged, Pt__law_is_judged) (by simp))
  case fn =>
    have G_init : FnOk P w K mg base CX0 1 f_init _ ["self", "value"] (spErrInit K) := ok_init F_init
    have G__law_pot := ok__law_pot (P := P) (w := w) (base := base) (a := a) F__law_pot T
    have G__law_take := ok__law_take (P := P) (w := w) (base := base) (a := a) F__law_take T
    have G__law_of := ok__law_of (P := P) (w := w) (base := base) (a := a) F__law_of T G__law_take b__law_take
    have G__law_places := ok__law_places (P := P) (w := w) (base := base) (a := a) F__law_places T
    have G__law_odd := ok__law_odd (P := P) (w := w) (base := base) (a := a) F__law_odd T G__law_of b__law_of
    have G_is_integer := ok_is_integer (P := P) (w := w) (base := base) (a := a) F_is_integer T
    have G_is_number := ok_is_number (P := P) (w := w) (base := base) (a := a) F_is_number T G_is_integer b_is_integer
    have G_Ratio___init__ := ok_Ratio___init__ (P := P) (w := w) (base := base) (a := a) F_Ratio___init__ T G_is_integer b_is_integer
    have G_as_ratio := ok_as_ratio (P := P) (w := w) (base := base) (a := a) F_as_ratio T G_Ratio___init__ b_Ratio___init__ d_Ratio___init__
    have G_Ratio___eq__ := ok_Ratio___eq__ (P := P) (w := w) (base := base) (a := a) F_Ratio___eq__ T
    have G_check_point := ok_check_point (P := P) (w := w) (base := base) (a := a) F_check_point T
    have G_Point___init__ := ok_Point___init__ (P := P) (w := w) (base := base) (a := a) F_Point___init__ T G_as_ratio b_as_ratio G_is_number b_is_number
    have G_Point___eq__ := ok_Point___eq__ (P := P) (w := w) (base := base) (a := a) F_Point___eq__ T G_Ratio___eq__ b_Ratio___eq__
    have G_Line___init__ := ok_Line___init__ (P := P) (w := w) (base := base) (a := a) F_Line___init__ T G_Point___eq__ b_Point___eq__ G_check_point b_check_point
    have G_Line___eq__ := ok_Line___eq__ (P := P) (w := w) (base := base) (a := a) F_Line___eq__ T G_Point___eq__ b_Point___eq__
    have G__is_corner := ok__is_corner (P := P) (w := w) (base := base) (a := a) F__is_corner T G_is_integer b_is_integer
    have G_line_through := ok_line_through (P := P) (w := w) (base := base) (a := a) F_line_through T
    have G_spot_of := ok_spot_of (P := P) (w := w) (base := base) (a := a) F_spot_of T
    have G_heights_at := ok_heights_at (P := P) (w := w) (base := base) (a := a) F_heights_at T
    have G__with_next := ok__with_next (P := P) (w := w) (base := base) (a := a) F__with_next T
    have G__borders := ok__borders (P := P) (w := w) (base := base) (a := a) F__borders T G__with_next b__with_next G_line_through b_line_through
    have G__goes_round_once := ok__goes_round_once (P := P) (w := w) (base := base) (a := a) F__goes_round_once T G_heights_at b_heights_at
    have G_Land___init__ := ok_Land___init__ (P := P) (w := w) (base := base) (a := a) F_Land___init__ T G__with_next b__with_next G_Line___init__ b_Line___init__ G_Point___init__ b_Point___init__ G__goes_round_once b__goes_round_once G_init b_init G__borders b__borders G__is_corner b__is_corner
    have G_Land___contains__ := ok_Land___contains__ (P := P) (w := w) (base := base) (a := a) F_Land___contains__ T G_heights_at b_heights_at G_spot_of b_spot_of
    have G_Land___eq__ := ok_Land___eq__ (P := P) (w := w) (base := base) (a := a) F_Land___eq__ T
    have G__law_some := ok__law_some (P := P) (w := w) (base := base) (a := a) F__law_some T G__law_take b__law_take
    have G__law_common := ok__law_common (P := P) (w := w) (base := base) (a := a) F__law_common T
    have G__law_height := ok__law_height (P := P) (w := w) (base := base) (a := a) F__law_height T
    have G__law_spot := ok__law_spot (P := P) (w := w) (base := base) (a := a) F__law_spot T G__law_common b__law_common
    have G__law_cross := ok__law_cross (P := P) (w := w) (base := base) (a := a) F__law_cross T G__law_spot b__law_spot
    have G__law_made_point := ok__law_made_point (P := P) (w := w) (base := base) (a := a) F__law_made_point T G_Point___init__ b_Point___init__ G_Ratio___init__ b_Ratio___init__ d_Ratio___init__
    have G__law_fits := ok__law_fits (P := P) (w := w) (base := base) (a := a) F__law_fits T G__law_height b__law_height
    have G__law_lines := ok__law_lines (P := P) (w := w) (base := base) (a := a) F__law_lines T
    have G__law_marks := ok__law_marks (P := P) (w := w) (base := base) (a := a) F__law_marks T G__law_fits b__law_fits G__law_take b__law_take G__law_of b__law_of G__law_some b__law_some
    have G__law_drawn_spot := ok__law_drawn_spot (P := P) (w := w) (base := base) (a := a) F__law_drawn_spot T G__law_take b__law_take G__law_of b__law_of G__law_spot b__law_spot G__law_some b__law_some G__law_cross b__law_cross G__law_lines b__law_lines
    have G__law_hull := ok__law_hull (P := P) (w := w) (base := base) (a := a) F__law_hull T G__law_height b__law_height
    have G__law_corners := ok__law_corners (P := P) (w := w) (base := base) (a := a) F__law_corners T G__law_take b__law_take G__law_hull b__law_hull G__law_of b__law_of
    have G__law_is_int := ok__law_is_int (P := P) (w := w) (base := base) (a := a) F__law_is_int T
    have G__law_edges := ok__law_edges (P := P) (w := w) (base := base) (a := a) F__law_edges T
    have G__law_is_within := ok__law_is_within (P := P) (w := w) (base := base) (a := a) F__law_is_within T G__law_edges b__law_edges G__law_height b__law_height
    have G__law_is_land := ok__law_is_land (P := P) (w := w) (base := base) (a := a) F__law_is_land T G__law_edges b__law_edges G__law_height b__law_height G__law_is_int b__law_is_int
    have G__law_edge_dots := ok__law_edge_dots (P := P) (w := w) (base := base) (a := a) F__law_edge_dots T G__law_edges b__law_edges
    have GB0 : ∀ fd, Fn P w K mg base CX0 (3 + 0) f__law_bent fd ["_law_pot_here", "_law_value"] (spBent 0) := fun fd => ⟨fun _ _ _ _ h => h.elim, fun _ _ _ _ _ _ _ _ _ _ _ _ _ _ h => h.elim⟩
    have GB1 := ok_bent (k := 0) (P := P) (w := w) (base := base) (a := a) F__law_bent T G__law_take b__law_take G__law_of b__law_of G__law_odd b__law_odd (GB0 _) b__law_bent
    have GB2 := ok_bent (k := 1) (P := P) (w := w) (base := base) (a := a) F__law_bent T G__law_take b__law_take G__law_of b__law_of G__law_odd b__law_odd GB1 b__law_bent
    have G__law_bent : Fn P w K mg base CX0 6 f__law_bent _ ["_law_pot_here", "_law_value"] (spBent 3) := ok_bent (k := 2) (P := P) (w := w) (base := base) (a := a) F__law_bent T G__law_take b__law_take G__law_of b__law_of G__law_odd b__law_odd GB2 b__law_bent
    have Gt := ok_told (P := P) (w := w) (base := base) (a := a) F__law_told T
    have G__law_is_judged := ok_judged (P := P) (w := w) (base := base) (a := a) T l__law_is_judged c__law_is_judged (TB (cA__law_is_judged, Pt__law_is_judged) (by simp)) Gt b__law_told G__law_is_land b__law_is_land G_Land___init__ b_Land___init__
    have G__law_right := ok__law_right (P := P) (w := w) (base := base) (a := a) F__law_right T G_Land___contains__ b_Land___contains__ G__law_is_judged b__law_is_judged G_Ratio___init__ b_Ratio___init__ d_Ratio___init__ G__law_bent b__law_bent G__law_odd b__law_odd G_Land___eq__ b_Land___eq__ G_Land___init__ b_Land___init__ G__law_drawn_spot b__law_drawn_spot G__law_edge_dots b__law_edge_dots G__law_made_point b__law_made_point G__law_is_within b__law_is_within G_Line___eq__ b_Line___eq__ G__law_edges b__law_edges G_Line___init__ b_Line___init__ G_Point___init__ b_Point___init__ G__law_take b__law_take G__law_corners b__law_corners G__law_marks b__law_marks
    exact ok_law (a := a) F_law T G__law_places b__law_places G__law_right b__law_right G__law_pot b__law_pot
end My

open PySem PySem.W PyProof.Rows
local macro_rules | `(tactic| walk_at "k_none") => `(tactic| first | kernel_rfl | rfl | decide +kernel)
set_option maxRecDepth 100000 in
set_option maxHeartbeats 0 in
theorem PySem.Challenge.cw_seenabout_k17_lands_holds : PySem.Challenge.rw_seenabout_k17_lands.Holds := by
  w_on; o_law; k_head; (case hw => w_witness2)
  k_fill
  refine G.walkOfT (l := PySem.Challenge.rw_seenabout_k17_lands) (n := 63) (k := 18) (x := "_law_script") (names := ["_law_is_judged"]) rfl (by decide) rfl ⟨rfl, by decide, by decide⟩ (by rfl) (fun w h Y => PySem.W.km_in_of Y) ?F
  case F =>
    intro w mg fa h KX G hmg tabs
    refine' My.all_mk KX G hmg (tabs _ (by simp)) ?n_abs ?n_all ?n_any ?n_bool ?n_enumerate ?n_int ?n_isinstance ?n_len ?n_list ?n_max ?n_min ?n_range ?n_repr ?n_set ?n_sorted ?n_str ?n_sum ?n_tuple ?n_zip ?gG ?gF ?g_AboutError ?g_BadLand ?x_AboutError ?x_BadLand ?i0 ?tI ?sp ?tk ?eb ?g_Ratio ?g_Point ?g_Line ?g_Land ?l_init ?c_init ?k_init ?g__law_told ?l__law_told ?c__law_told ?k__law_told ?g__law_pot ?l__law_pot ?c__law_pot ?k__law_pot ?g__law_take ?l__law_take ?c__law_take ?k__law_take ?g__law_of ?l__law_of ?c__law_of ?k__law_of ?g__law_places ?l__law_places ?c__law_places ?k__law_places ?g__law_odd ?l__law_odd ?c__law_odd ?k__law_odd ?g_is_integer ?l_is_integer ?c_is_integer ?k_is_integer ?g_is_number ?l_is_number ?c_is_number ?k_is_number ?g_Ratio___init__ ?l_Ratio___init__ ?c_Ratio___init__ ?k_Ratio___init__ ?d_Ratio___init__ ?r_Ratio___init__ ?g_as_ratio ?l_as_ratio ?c_as_ratio ?k_as_ratio ?g_Ratio___eq__ ?l_Ratio___eq__ ?c_Ratio___eq__ ?k_Ratio___eq__ ?g_check_point ?l_check_point ?c_check_point ?k_check_point ?g_Point___init__ ?l_Point___init__ ?c_Point___init__ ?k_Point___init__ ?g_Point___eq__ ?l_Point___eq__ ?c_Point___eq__ ?k_Point___eq__ ?g_Line___init__ ?l_Line___init__ ?c_Line___init__ ?k_Line___init__ ?g_Line___eq__ ?l_Line___eq__ ?c_Line___eq__ ?k_Line___eq__ ?g__is_corner ?l__is_corner ?c__is_corner ?k__is_corner ?g_line_through ?l_line_through ?c_line_through ?k_line_through ?g_spot_of ?l_spot_of ?c_spot_of ?k_spot_of ?g_heights_at ?l_heights_at ?c_heights_at ?k_heights_at ?g__with_next ?l__with_next ?c__with_next ?k__with_next ?g__borders ?l__borders ?c__borders ?k__borders ?g__goes_round_once ?l__goes_round_once ?c__goes_round_once ?k__goes_round_once ?g_Land___init__ ?l_Land___init__ ?c_Land___init__ ?k_Land___init__ ?g_Land___contains__ ?l_Land___contains__ ?c_Land___contains__ ?k_Land___contains__ ?g_Land___eq__ ?l_Land___eq__ ?c_Land___eq__ ?k_Land___eq__ ?g__law_some ?l__law_some ?c__law_some ?k__law_some ?g__law_common ?l__law_common ?c__law_common ?k__law_common ?g__law_height ?l__law_height ?c__law_height ?k__law_height ?g__law_spot ?l__law_spot ?c__law_spot ?k__law_spot ?g__law_cross ?l__law_cross ?c__law_cross ?k__law_cross ?g__law_made_point ?l__law_made_point ?c__law_made_point ?k__law_made_point ?g__law_fits ?l__law_fits ?c__law_fits ?k__law_fits ?g__law_lines ?l__law_lines ?c__law_lines ?k__law_lines ?g__law_marks ?l__law_marks ?c__law_marks ?k__law_marks ?g__law_drawn_spot ?l__law_drawn_spot ?c__law_drawn_spot ?k__law_drawn_spot ?g__law_hull ?l__law_hull ?c__law_hull ?k__law_hull ?g__law_corners ?l__law_corners ?c__law_corners ?k__law_corners ?g__law_is_int ?l__law_is_int ?c__law_is_int ?k__law_is_int ?g__law_edges ?l__law_edges ?c__law_edges ?k__law_edges ?g__law_is_within ?l__law_is_within ?c__law_is_within ?k__law_is_within ?g__law_is_land ?l__law_is_land ?c__law_is_land ?k__law_is_land ?g__law_edge_dots ?l__law_edge_dots ?c__law_edge_dots ?k__law_edge_dots ?g__law_bent ?l__law_bent ?c__law_bent ?k__law_bent ?g__law_is_judged ?l__law_is_judged ?c__law_is_judged ?k__law_is_judged ?o__law_is_judged ?v__law_is_judged ?t__law_is_judged ?g__law_right ?l__law_right ?c__law_right ?k__law_right ?g_law ?l_law ?c_law ?k_law ?ri1 ?ri4 ?ri5 ?ri6 ?ri7 ?ri8 ?cl1 ?cl2 ?cl3 ?cl4 ?mk1 ?mk2 ?mk3 ?eq1 ?eq2 ?eq3 ?ri1P ?ri4P ?ri5P ?ri6P ?ri7P ?ri8P ?cl1P ?cl2P ?cl3P ?cl4P ?mk1P ?mk2P ?mk3P ?eq1P ?eq2P ?eq3P ?ri1L ?ri4L ?ri5L ?ri6L ?ri7L ?ri8L ?cl1L ?cl2L ?cl3L ?cl4L ?mk1L ?mk2L ?mk3L ?eq1L ?eq2L ?eq3L ?ri1D ?ri4D ?ri5D ?ri6D ?ri7D ?ri8D ?cl1D ?cl2D ?cl3D ?cl4D ?mk1D ?mk2D ?mk3D ?eq1D ?eq2D ?eq3D ?nN ?nU ?nX ?nY ?nA ?nB ?nC ?nE ?nBo ?rPL ?rDP ?conF ?xBBadLand ?tBBadLand
    (case n_abs => k_is)
    (case n_all => k_is)
    (case n_any => k_is)
    (case n_bool => k_is)
    (case n_enumerate => k_is)
    (case n_int => k_is)
    (case n_isinstance => k_is)
    (case n_len => k_is)
    (case n_list => k_is)
    (case n_max => k_is)
    (case n_min => k_is)
    (case n_range => k_is)
    (case n_repr => k_is)
    (case n_set => k_is)
    (case n_sorted => k_is)
    (case n_str => k_is)
    (case n_sum => k_is)
    (case n_tuple => k_is)
    (case n_zip => k_is)
    (case gG => k_is)
    (case gF => k_is)
    (case g_AboutError => k_is)
    (case g_BadLand => k_is)
    (case x_AboutError => k_is)
    (case x_BadLand => k_is)
    (case i0 => k_is)
    (case tI => k_is)
    (case sp => k_is)
    (case tk => k_is)
    (case eb => kernel_rfl)
    (case g_Ratio => k_is)
    (case g_Point => k_is)
    (case g_Line => k_is)
    (case g_Land => k_is)
    (case l_init => k_is)
    (case c_init => k_is)
    (case k_init => k_is)
    (case g__law_told => k_is)
    (case l__law_told => k_is)
    (case c__law_told => k_is)
    (case k__law_told => k_is)
    (case g__law_pot => k_is)
    (case l__law_pot => k_is)
    (case c__law_pot => k_is)
    (case k__law_pot => k_is)
    (case g__law_take => k_is)
    (case l__law_take => k_is)
    (case c__law_take => k_is)
    (case k__law_take => k_is)
    (case g__law_of => k_is)
    (case l__law_of => k_is)
    (case c__law_of => k_is)
    (case k__law_of => k_is)
    (case g__law_places => k_is)
    (case l__law_places => k_is)
    (case c__law_places => k_is)
    (case k__law_places => k_is)
    (case g__law_odd => k_is)
    (case l__law_odd => k_is)
    (case c__law_odd => k_is)
    (case k__law_odd => k_is)
    (case g_is_integer => k_is)
    (case l_is_integer => k_is)
    (case c_is_integer => k_is)
    (case k_is_integer => k_is)
    (case g_is_number => k_is)
    (case l_is_number => k_is)
    (case c_is_number => k_is)
    (case k_is_number => k_is)
    (case g_Ratio___init__ => k_is)
    (case l_Ratio___init__ => k_is)
    (case c_Ratio___init__ => k_is)
    (case k_Ratio___init__ => k_is)
    (case d_Ratio___init__ => k_is)
    (case r_Ratio___init__ => first | exact .cons ⟨_, rfl⟩ .nil | exact .cons rfl .nil)
    (case g_as_ratio => k_is)
    (case l_as_ratio => k_is)
    (case c_as_ratio => k_is)
    (case k_as_ratio => k_is)
    (case g_Ratio___eq__ => k_is)
    (case l_Ratio___eq__ => k_is)
    (case c_Ratio___eq__ => k_is)
    (case k_Ratio___eq__ => k_is)
    (case g_check_point => k_is)
    (case l_check_point => k_is)
    (case c_check_point => k_is)
    (case k_check_point => k_is)
    (case g_Point___init__ => k_is)
    (case l_Point___init__ => k_is)
    (case c_Point___init__ => k_is)
    (case k_Point___init__ => k_is)
    (case g_Point___eq__ => k_is)
    (case l_Point___eq__ => k_is)
    (case c_Point___eq__ => k_is)
    (case k_Point___eq__ => k_is)
    (case g_Line___init__ => k_is)
    (case l_Line___init__ => k_is)
    (case c_Line___init__ => k_is)
    (case k_Line___init__ => k_is)
    (case g_Line___eq__ => k_is)
    (case l_Line___eq__ => k_is)
    (case c_Line___eq__ => k_is)
    (case k_Line___eq__ => k_is)
    (case g__is_corner => k_is)
    (case l__is_corner => k_is)
    (case c__is_corner => k_is)
    (case k__is_corner => k_is)
    (case g_line_through => k_is)
    (case l_line_through => k_is)
    (case c_line_through => k_is)
    (case k_line_through => k_is)
    (case g_spot_of => k_is)
    (case l_spot_of => k_is)
    (case c_spot_of => k_is)
    (case k_spot_of => k_is)
    (case g_heights_at => k_is)
    (case l_heights_at => k_is)
    (case c_heights_at => k_is)
    (case k_heights_at => k_is)
    (case g__with_next => k_is)
    (case l__with_next => k_is)
    (case c__with_next => k_is)
    (case k__with_next => k_is)
    (case g__borders => k_is)
    (case l__borders => k_is)
    (case c__borders => k_is)
    (case k__borders => k_is)
    (case g__goes_round_once => k_is)
    (case l__goes_round_once => k_is)
    (case c__goes_round_once => k_is)
    (case k__goes_round_once => k_is)
    (case g_Land___init__ => k_is)
    (case l_Land___init__ => k_is)
    (case c_Land___init__ => k_is)
    (case k_Land___init__ => k_is)
    (case g_Land___contains__ => k_is)
    (case l_Land___contains__ => k_is)
    (case c_Land___contains__ => k_is)
    (case k_Land___contains__ => k_is)
    (case g_Land___eq__ => k_is)
    (case l_Land___eq__ => k_is)
    (case c_Land___eq__ => k_is)
    (case k_Land___eq__ => k_is)
    (case g__law_some => k_is)
    (case l__law_some => k_is)
    (case c__law_some => k_is)
    (case k__law_some => k_is)
    (case g__law_common => k_is)
    (case l__law_common => k_is)
    (case c__law_common => k_is)
    (case k__law_common => k_is)
    (case g__law_height => k_is)
    (case l__law_height => k_is)
    (case c__law_height => k_is)
    (case k__law_height => k_is)
    (case g__law_spot => k_is)
    (case l__law_spot => k_is)
    (case c__law_spot => k_is)
    (case k__law_spot => k_is)
    (case g__law_cross => k_is)
    (case l__law_cross => k_is)
    (case c__law_cross => k_is)
    (case k__law_cross => k_is)
    (case g__law_made_point => k_is)
    (case l__law_made_point => k_is)
    (case c__law_made_point => k_is)
    (case k__law_made_point => k_is)
    (case g__law_fits => k_is)
    (case l__law_fits => k_is)
    (case c__law_fits => k_is)
    (case k__law_fits => k_is)
    (case g__law_lines => k_is)
    (case l__law_lines => k_is)
    (case c__law_lines => k_is)
    (case k__law_lines => k_is)
    (case g__law_marks => k_is)
    (case l__law_marks => k_is)
    (case c__law_marks => k_is)
    (case k__law_marks => k_is)
    (case g__law_drawn_spot => k_is)
    (case l__law_drawn_spot => k_is)
    (case c__law_drawn_spot => k_is)
    (case k__law_drawn_spot => k_is)
    (case g__law_hull => k_is)
    (case l__law_hull => k_is)
    (case c__law_hull => k_is)
    (case k__law_hull => k_is)
    (case g__law_corners => k_is)
    (case l__law_corners => k_is)
    (case c__law_corners => k_is)
    (case k__law_corners => k_is)
    (case g__law_is_int => k_is)
    (case l__law_is_int => k_is)
    (case c__law_is_int => k_is)
    (case k__law_is_int => k_is)
    (case g__law_edges => k_is)
    (case l__law_edges => k_is)
    (case c__law_edges => k_is)
    (case k__law_edges => k_is)
    (case g__law_is_within => k_is)
    (case l__law_is_within => k_is)
    (case c__law_is_within => k_is)
    (case k__law_is_within => k_is)
    (case g__law_is_land => k_is)
    (case l__law_is_land => k_is)
    (case c__law_is_land => k_is)
    (case k__law_is_land => k_is)
    (case g__law_edge_dots => k_is)
    (case l__law_edge_dots => k_is)
    (case c__law_edge_dots => k_is)
    (case k__law_edge_dots => k_is)
    (case g__law_bent => k_is)
    (case l__law_bent => k_is)
    (case c__law_bent => k_is)
    (case k__law_bent => k_is)
    (case g__law_is_judged => k_is)
    (case l__law_is_judged => k_is)
    (case c__law_is_judged => k_is)
    (case k__law_is_judged => k_is)
    (case o__law_is_judged => k_is)
    (case v__law_is_judged => rfl)
    (case t__law_is_judged => walk_at "k_none")
    (case g__law_right => k_is)
    (case l__law_right => k_is)
    (case c__law_right => k_is)
    (case k__law_right => k_is)
    (case g_law => k_is)
    (case l_law => k_is)
    (case c_law => k_is)
    (case k_law => k_is)
    (case ri1 => k_is)
    (case ri4 => kernel_rfl)
    (case ri5 => kernel_rfl)
    (case ri6 => kernel_rfl)
    (case ri7 => kernel_rfl)
    (case ri8 => kernel_rfl)
    (case cl1 => k_is)
    (case cl2 => k_is)
    (case cl3 => k_is)
    (case cl4 => k_is)
    (case mk1 => k_is)
    (case mk2 => k_is)
    (case mk3 => k_is)
    (case eq1 => k_is)
    (case eq2 => k_is)
    (case eq3 => kernel_rfl)
    (case ri1P => k_is)
    (case ri4P => kernel_rfl)
    (case ri5P => kernel_rfl)
    (case ri6P => kernel_rfl)
    (case ri7P => kernel_rfl)
    (case ri8P => kernel_rfl)
    (case cl1P => k_is)
    (case cl2P => k_is)
    (case cl3P => k_is)
    (case cl4P => k_is)
    (case mk1P => k_is)
    (case mk2P => k_is)
    (case mk3P => k_is)
    (case eq1P => k_is)
    (case eq2P => k_is)
    (case eq3P => kernel_rfl)
    (case ri1L => k_is)
    (case ri4L => kernel_rfl)
    (case ri5L => kernel_rfl)
    (case ri6L => kernel_rfl)
    (case ri7L => kernel_rfl)
    (case ri8L => kernel_rfl)
    (case cl1L => k_is)
    (case cl2L => k_is)
    (case cl3L => k_is)
    (case cl4L => k_is)
    (case mk1L => k_is)
    (case mk2L => k_is)
    (case mk3L => k_is)
    (case eq1L => k_is)
    (case eq2L => k_is)
    (case eq3L => kernel_rfl)
    (case ri1D => k_is)
    (case ri4D => kernel_rfl)
    (case ri5D => kernel_rfl)
    (case ri6D => kernel_rfl)
    (case ri7D => kernel_rfl)
    (case ri8D => kernel_rfl)
    (case cl1D => k_is)
    (case cl2D => k_is)
    (case cl3D => k_is)
    (case cl4D => k_is)
    (case mk1D => k_is)
    (case mk2D => k_is)
    (case mk3D => k_is)
    (case eq1D => k_is)
    (case eq2D => k_is)
    (case eq3D => kernel_rfl)
    (case nN => k_is)
    (case nU => k_is)
    (case nX => k_is)
    (case nY => k_is)
    (case nA => k_is)
    (case nB => k_is)
    (case nC => k_is)
    (case nE => k_is)
    (case nBo => k_is)
    (case rPL => kernel_rfl)
    (case rDP => kernel_rfl)
    (case conF => k_is)
    (case xBBadLand => kernel_rfl)
    (case tBBadLand => kernel_rfl)
