import PyProof.Rows.All
import Wide.All
import OpenK.AllK
import Wide.FinOn
import HandS.ForMost
import HandS.Exc
import HandS.ExcInit
import HandS.IsInst
import HandS.TupAny
import HandS.Conv
import HandS.Wide
import HandS.Deep
import KE.KExcIs
import HandS.Gcd
import HandS.Evl
import HandS.Walk
import HandS.SlotsOwn
import HandS.OwnEq
import KE.KOpsOwn
import PyProof.TwoTypes
import PyProof.EqKinds
import HandS.ExcValue
import HandS.Lambda
import KE.KEqDict
import HandS.Defaults
import HandS.WordsExc
import PyProof.Rows.RegStrFacts
import HandS.FStr
import HandS.Style
import HandS.Text
import HandS.EndTab
import PySem.Challenge.RW_seenabout_k02_ratios_reckoned
set_option Elab.async false
set_option linter.all false
set_option maxRecDepth 100000
set_option maxHeartbeats 4000000
/-! A layer over HandS: defs that are entered while nothing shows itself (so that repr may be told). -/
namespace G
open PySem PySem.Spec PyProof.Rows L2

abbrev Quiet (A : Around) : Prop := A.guards = some []

structure Fn (P : Program) (w : World) (K : PySem.W.Frag) (mg : Str → Option Value) (base : Heap) (CX : CXT) (k : Nat) (f : Addr) (fd : FuncData) (ps : List Str) (sp : Sp) : Prop where
  len : ∀ vs H Q E, sp vs H Q E → vs.length = ps.length
  run : ∀ (A : Around) (outer : List Env) (s : Shared) (H : Hp) (args : Args) (us : List Value) (vs : List V) (Q : VK) (E : XK), Quiet A → Room k A →
    Env0 P w K mg base A outer s H → BindsTo s fd args (ps.zip us) → Vals vs us → sp vs H Q E → codeAny (model P w) A (.call (.ref f) args) (CR CX outer P w H s Q E) s

section
variable {P : Program} {w : World} {K : PySem.W.Frag} {mg : Str → Option Value} {base : Heap} {CX : CXT}
theorem Fn.mono {j k : Nat} {f : Addr} {fd : FuncData} {ps : List Str} {sp : Sp} (F : Fn P w K mg base CX j f fd ps sp) (h : j ≤ k) : Fn P w K mg base CX k f fd ps sp :=
  ⟨F.len, fun A outer s H args us vs Q E hq hr => F.run A outer s H args us vs Q E hq (hr.mono h)⟩
/-- what is told of all surroundings is told of quiet ones -/
theorem Fn.ofOk {k : Nat} {f : Addr} {fd : FuncData} {ps : List Str} {sp : Sp} (F : FnOk P w K mg base CX k f fd ps sp) : Fn P w K mg base CX k f fd ps sp :=
  ⟨F.len, fun A outer s H args us vs Q E _ hr => F.run A outer s H args us vs Q E hr⟩

theorem fnOf {k : Nat} {f : Addr} {name qual : Str} {params : Arguments} {body : List Stmt} {scope : Scope} {kV doc pm cdv ct oc : Value} {an od : Option Addr} {osl : Array (Option Value)} {N ps : List Str} {sp : Sp}
    (lk : K.lookup f = some ⟨oc, od, .func (PySem.W.fnOf name qual params body scope .none kV doc pm an cdv ct), osl⟩) (hcd : PySem.W.codeIn K cdv qual = true)
    (S : FnScope N ps scope) (len : ∀ vs H Q E, sp vs H Q E → vs.length = ps.length)
    (body_ok : ∀ (A : Around) (outer : List Env) (s : Shared) (H : Hp) (vs : List V) (Q : VK) (E : XK), Quiet A → Room k (A.deeper (envOfC qual scope s.heap.objs.size f cdv)) → sp vs H Q E →
      ∃ t, PSs (cxOf CX P w K mg base N qual scope f cdv A outer s H E) body t ∧ t { nx := fun _ H' => Q .non H', rt := Q } (start N vs) H) :
    Fn P w K mg base CX (k + 1) f (PySem.W.fnOf name qual params body scope .none kV doc pm an cdv ct) ps sp := by
  constructor
  · exact len
  intro A outer s H args us vs Q E hq hr e0 hb r hsp
  have hl : vs.length = ps.length := len _ _ _ _ hsp
  have inS : K.In s.heap := e0.mod.kin.keeps (fun b o e => (e0.bs b o e).1)
  have noL : s.heap.NoLimit := e0.mod.nolimit.keeps (fun b o e => (e0.bs b o e).1)
  have kinds : ∀ y ∈ ps.zip us, scope.names.lookup y.1 = some .local ∨ (scope.names.lookup y.1 = some .cell ∧ ((cellsFrom (s.heap.objs.size + 1) scope.names []).lookup y.1).isSome = true) := by
    rintro ⟨n, v⟩ hy
    cases S.par n (List.of_mem_zip hy).1 with
    | inl q => exact Or.inl q
    | inr q => exact Or.inr ⟨q, PySem.W.cellsFrom_some _ _ _ (Or.inl q)⟩
  apply codeAny_call_function hr.depth (inS _ _ lk) rfl S.co S.gen rfl (PySem.W.codeRec_of inS hcd)
  refine hb _ _ _ _ (wpAny_newFunctionEnv_cells S.kind kinds ?_)
  intro env he s1 x
  cases he
  constructor
  · exact noL.keeps x.toInCall.keep
  apply codeAny_func
  obtain ⟨t, ht, q0⟩ := body_ok A outer s H vs Q E hq (hr.deeper _) hsp
  have I := inv_start (CX := CX) (P := P) (w := w) (K := K) (mg := mg) (base := base) (E := E) S hr.hd e0 hl r x
  apply wpAny_mono (ht.run [] s1 (start N vs) H _ I q0)
  · intro fl s' hs
    cases fl with
    | ret u => obtain ⟨v, σ', H', J, rv, q⟩ := hs; exact ⟨v, H', J.os, J.bare, J.base, J.hok, rv, q⟩
    | next => obtain ⟨σ', H', J, q⟩ := hs; exact ⟨V.non, H', J.os, J.bare, J.base, J.hok, rfl, q⟩
    | brk => exact hs.elim fun _ z => z.elim fun _ z => z.2.elim
    | cont => exact hs.elim fun _ z => z.elim fun _ z => z.2.elim
  · intro e s' hs
    exact hs

theorem ok {x qual : Str} {st : Stmt} {f : Addr} {fd : FuncData} {N ps : List Str} {k : Nat} {sp : Sp} (F : Fun K x qual st f fd) (S : FnScope N ps (defScope st)) (len : ∀ vs H Q E, sp vs H Q E → vs.length = ps.length)
    (body_ok : ∀ (cdv : Value) (A : Around) (outer : List Env) (s : Shared) (H : Hp) (vs : List V) (Q : VK) (E : XK), Quiet A → Room k (A.deeper (envOfC qual (defScope st) s.heap.objs.size f cdv)) → sp vs H Q E →
      ∃ t, PSs (cxOf CX0 P w K mg base N qual (defScope st) f cdv A outer s H E).nox (defBody st) t ∧ t { nx := fun _ H' => Q .non H', rt := Q } (start N vs) H) :
    Fn P w K mg base CX0 (k + 1) f fd ps sp := by
  obtain ⟨_, _, _, _, _, _, cdv, _, _, rfl, lk, hcd⟩ := F.ex
  apply fnOf lk hcd S len
  intro A outer s H vs Q E hq hr hsp
  obtain ⟨t, h, q⟩ := body_ok cdv A outer s H vs Q E hq hr hsp
  exact ⟨t, h.nox, q⟩
end

section
variable {X : Cx} {CX : CXT} {k : Nat} {f C : Addr} {fd : FuncData} {ps : List Str} {sp : Sp} {dvs : List V} {ds : List Value} {E : XK} {x m : Str} {p pos apos : Pos} {e o : Expr} {es : List Expr} {ta : TE} {t : TA}
theorem runFn {pins : List (Addr × Obj)} {σ : L2.St} {H : Hp} {s : Shared} {Q : VK} {us : List Value} {vs : List V} (F : Fn X.prog X.w X.K X.mg X.base CX k f fd ps sp) (hq : Quiet X.A) (hr : Room k X.A) (hb : Binds X.K fd ps ds) (hd : Vals dvs ds)
    (hx : Passes CX X E) (I : Inv X pins σ H s) (r : Vals vs us) (h : sp (vs ++ dvs) H Q E) : wpAny (model X.prog X.w) X.A (call (.ref f) us) (EP X pins σ Q) X.xe s := by
  have r2 : Vals (vs ++ dvs) (us ++ ds) := r.append hd
  have hl : (us ++ ds).length = ps.length := r2.length.symm.trans (F.len _ _ _ _ h)
  apply wpAny_call
  apply codeAny_mono (F.run X.A X.stack s H ⟨us, []⟩ (us ++ ds) (vs ++ dvs) Q E hq hr I.env0 (hb s us I.kIn hl) r2 h)
  intro res s' done
  match res, done with
  | .error e, z => exact hx pins σ H s e s' I z
  | .ok (.ret u), z => exact I.after z
  | .ok .next, z => exact z.elim
  | .ok .brk, z => exact z.elim
  | .ok .cont, z => exact z.elim
/-- f(e, ..) -/
theorem pe_fn (F : Fn X.prog X.w X.K X.mg X.base CX k f fd ps sp) (hq : Quiet X.A) (hr : Room k X.A) (hg : Gl X x) (hm : X.mg x = some (.ref f)) (hk : PySem.W.keepIn X.K (.ref f) = true) (hb : Binds X.K fd ps ds) (hd : Vals dvs ds) (hx : Passes CX X E)
    (ha : PA X (e :: es) t) (hdb : (x == ("__debug__" : Str)) = false := by decide) (he : starEach (e :: es) X.env = (false, eval e X.env) :: starEach es X.env := by rfl) (hpl : (backTo pos (starEach es X.env)).any (·.1) = false := by rfl) :
    PE X (.Call (.Name x p) (e :: es) [] pos) (tCall sp dvs E t) := by
  constructor
  intro pins s σ H Q I h
  apply wpAny_Call_Name_kw
  apply ld_glob I hg hm _ hdb
  apply PySem.W.callWith_K (h₀ := X.base) I.ok.mod.kin hk _ he hpl
  apply thn (ha.run pos pins s σ H _ I h)
  rintro us s1 ⟨vs, H1, I1, r, q⟩
  exact ⟨I1.kIn, runFn F hq hr hb hd hx I1 r q⟩
/-- f() -/
theorem pe_fn0 (F : Fn X.prog X.w X.K X.mg X.base CX k f fd ps sp) (hq : Quiet X.A) (hr : Room k X.A) (hg : Gl X x) (hm : X.mg x = some (.ref f)) (hk : PySem.W.keepIn X.K (.ref f) = true) (hb : Binds X.K fd ps ds) (hd : Vals dvs ds) (hx : Passes CX X E)
    (hdb : (x == ("__debug__" : Str)) = false := by decide) : PE X (.Call (.Name x p) [] [] pos) (tCall sp dvs E tNil) := by
  constructor
  intro pins s σ H Q I h
  apply wpAny_Call_Name_kw
  apply ld_glob I hg hm _ hdb
  exact PySem.W.callWith_K0 I.kIn hk (runFn (us := []) F hq hr hb hd hx I .nil h)
end
end G

namespace G
open PySem PySem.Spec PyProof.Rows L2

/-! ### what a value of the abstract heap reads as, dicts with plain keys among it -/
def keyD : Key → PyData
  | .inl i => .int i
  | .inr x => .str x
mutual
inductive Da (H : Hp) : V → PyData → Prop
  | non : Da H .non .none
  | bl (b : Bool) : Da H (.bl b) (.bool b)
  | int (i : Int) : Da H (.int i) (.int i)
  | str (x : Str) : Da H (.str x) (.str x)
  | lst {a : Addr} {xs : List V} {ds : List PyData} : H a = some (.lst xs) → a ≠ sysModules → DaAll H xs ds → Da H (.ref a) (.list ds)
  | tup {a : Addr} {xs : List V} {ds : List PyData} : H a = some (.tup xs) → DaAll H xs ds → Da H (.ref a) (.tuple ds)
  | dct {a : Addr} {kvs : List (Key × V)} {ds : List PyData} : H a = some (.dK kvs) → DaAll H (kvs.map (·.2)) ds → Da H (.ref a) (.dict ((kvs.map fun p => keyD p.1).zip ds))
inductive DaAll (H : Hp) : List V → List PyData → Prop
  | nil : DaAll H [] []
  | cons {v : V} {vs : List V} {d : PyData} {ds : List PyData} : Da H v d → DaAll H vs ds → DaAll H (v :: vs) (d :: ds)
end
theorem DaAll.length {H : Hp} : ∀ {vs : List V} {ds : List PyData}, DaAll H vs ds → vs.length = ds.length
  | _, _, .nil => rfl
  | _, _, .cons _ t => congrArg (· + 1) (DaAll.length t)
mutual
theorem Da.same {H H' : Hp} (S : Same H H') : ∀ {v : V} {d : PyData}, Da H v d → Da H' v d
  | _, _, .non => .non
  | _, _, .bl b => .bl b
  | _, _, .int i => .int i
  | _, _, .str x => .str x
  | _, _, .lst e n t => .lst (S _ _ e) n (DaAll.same S t)
  | _, _, .tup e t => .tup (S _ _ e) (DaAll.same S t)
  | _, _, .dct e t => .dct (S _ _ e) (DaAll.same S t)
theorem DaAll.same {H H' : Hp} (S : Same H H') : ∀ {vs : List V} {ds : List PyData}, DaAll H vs ds → DaAll H' vs ds
  | _, _, .nil => .nil
  | _, _, .cons h t => .cons (Da.same S h) (DaAll.same S t)
end
theorem reads_keys {P : Program} {w : World} (h : Heap) : ∀ {es : List DictEntry} {kvs : List (Key × Value)}, Pairs (mixKind P w) es kvs → ReadsAll h (es.map (·.key)) (kvs.map fun p => keyD p.1) []
  | _, _, .nil => .nil
  | _, _, .cons (e := e) (kv := kv) hk _ t => by
    have h1 : Reads h e.key (keyD kv.1) [] := by
      rcases keyIs_shape (k := kv.1) (v := e.key) hk with ⟨i, t, e1, e2⟩ | ⟨x, t, e1, e2⟩
      · rw [e1, e2]; exact Reads.int i t
      · rw [e1, e2]; exact Reads.str x t
    exact ReadsAll.cons (as := []) (bs := []) h1 (reads_keys h t)
theorem vals_of_pairs {P : Program} {w : World} : ∀ {es : List DictEntry} {kvs : List (Key × Value)}, Pairs (mixKind P w) es kvs → es.map (·.val) = kvs.map (·.2)
  | _, _, .nil => rfl
  | _, _, .cons _ hv t => by rw [List.map_cons, List.map_cons, hv, vals_of_pairs t]
theorem KV.keys {kvs : List (Key × V)} {vs : List (Key × Value)} (r : KV kvs vs) : kvs.map (fun p => keyD p.1) = vs.map (fun p => keyD p.1) := by
  induction r with
  | nil => rfl
  | cons h _ ih => rw [List.map_cons, List.map_cons, h.1, ih]
theorem KV.valsV {kvs : List (Key × V)} {vs : List (Key × Value)} (r : KV kvs vs) : Vals (kvs.map (·.2)) (vs.map (·.2)) := by
  induction r with
  | nil => exact .nil
  | cons h _ ih => exact .cons h.2 ih

section
variable {X : Cx} {pins : List (Addr × Obj)} {σ : L2.St} {H : Hp} {s : Shared}
mutual
theorem Da.reads (I : Inv X pins σ H s) : ∀ {v : V} {d : PyData} {u : Value}, Da H v d → RelV v u → ∃ as, Reads s.heap u d as ∧ sysModules ∉ as
  | _, _, _, .non, r => by cases r; exact ⟨_, .none, by simp⟩
  | _, _, _, .bl b, r => by cases r; exact ⟨_, .bool b, by simp⟩
  | _, _, _, .int i, r => by obtain ⟨t, rfl⟩ := r; exact ⟨_, .int i t, by simp⟩
  | _, _, _, .str x, r => by obtain ⟨t, rfl⟩ := r; exact ⟨_, .str x t, by simp⟩
  | _, _, _, .lst e n t, r => by
    cases r
    obtain ⟨_, its, m, rv, ho⟩ := I.hok _ _ e
    obtain ⟨as, hr, hn⟩ := DaAll.reads I t rv
    exact ⟨_, .list ho rfl rfl hr, by simp only [List.mem_cons, not_or]; exact ⟨fun z => n z.symm, hn⟩⟩
  | _, _, _, .tup e t, r => by
    cases r
    obtain ⟨_, its, rv, o, ho, hc, m, hd⟩ := I.hok _ _ e
    obtain ⟨as, hr, hn⟩ := DaAll.reads I t rv
    exact ⟨_, .tuple ho hc hd hr, hn⟩
  | _, _, _, .dct (a := a) (kvs := kvs) (ds := ds) e t, r => by
    cases r
    obtain ⟨_, hs, vs, rel, o, es, ep, ho, hx, hd, hk, hp, _⟩ := I.hok _ _ e
    obtain ⟨bs, hr, hn⟩ := DaAll.reads I t (KV.valsV rel)
    have e1 : (((kvs.map fun p => keyD p.1).zip ds).map (·.1)) = vs.map fun p => keyD p.1 := by
      rw [List.map_fst_zip (by rw [List.length_map]; have := t.length; rw [List.length_map] at this; omega)]
      exact KV.keys rel
    have e2 : (((kvs.map fun p => keyD p.1).zip ds).map (·.2)) = ds :=
      List.map_snd_zip (by rw [List.length_map]; have := t.length; rw [List.length_map] at this; omega)
    refine ⟨_, .dict (as := []) (bs := bs) ho hx.1 hd ?_ ?_, ?_⟩
    · rw [e1]; exact reads_keys s.heap hp
    · rw [e2, vals_of_pairs hp]; exact hr
    · have : sysModules ≠ a := fun z => by rw [← z] at hs; exact absurd hs (by decide)
      simp only [List.append_nil, List.singleton_append, List.mem_cons, not_or]
      exact ⟨this, hn⟩
theorem DaAll.reads (I : Inv X pins σ H s) : ∀ {vs : List V} {ds : List PyData} {us : List Value}, DaAll H vs ds → Vals vs us → ∃ as, ReadsAll s.heap us ds as ∧ sysModules ∉ as
  | _, _, _, .nil, r => by cases r; exact ⟨_, .nil, by simp⟩
  | _, _, _, .cons h t, r => by
    cases r with
    | cons r1 r2 =>
      obtain ⟨as, q1, n1⟩ := Da.reads I h r1
      obtain ⟨bs, q2, n2⟩ := DaAll.reads I t r2
      exact ⟨_, .cons q1 q2, by rw [List.mem_append, not_or]; exact ⟨n1, n2⟩⟩
end
end

/-! ### data that is short enough to be shown -/
structure Gd (n k : Nat) (d : PyData) : Prop where
  short : d.leavesShort 13 = true
  show_ : d.showable = true
  depth : d.depth ≤ k
  weight : d.weight ≤ n
theorem Gd.mono {m n j k : Nat} {d : PyData} (g : Gd m j d) (h : m ≤ n) (h2 : j ≤ k) : Gd n k d := ⟨g.short, g.show_, Nat.le_trans g.depth h2, Nat.le_trans g.weight h⟩
theorem Gd.fits {n k : Nat} {d : PyData} (g : Gd n k d) (h : n ≤ 2 ^ 20) : d.shown.length ≤ sizeLine := PyData.shown_fits (by decide) (by decide) g.short (Nat.le_trans g.weight h)
/-- by a look: for written data -/
def gdB (n k : Nat) (d : PyData) : Bool := d.leavesShort 13 && (d.showable && (decide (d.depth ≤ k) && decide (d.weight ≤ n)))
theorem gdB_ok {n k : Nat} {d : PyData} (h : gdB n k d = true) : Gd n k d := by
  obtain ⟨h1, h⟩ := Bool.and_eq_true_iff.mp h
  obtain ⟨h2, h⟩ := Bool.and_eq_true_iff.mp h
  obtain ⟨h3, h4⟩ := Bool.and_eq_true_iff.mp h
  exact ⟨h1, h2, of_decide_eq_true h3, of_decide_eq_true h4⟩
theorem gd_all {n k : Nat} : ∀ {ds : List PyData}, (∀ d ∈ ds, Gd n k d) → PyData.leavesShortAll 13 ds = true ∧ PyData.showableAll ds = true ∧ PyData.depthAll ds ≤ k ∧ PyData.weightAll ds ≤ ds.length * (n + 1)
  | [], _ => ⟨by simp [PyData.leavesShortAll], by simp [PyData.showableAll], by simp [PyData.depthAll], by simp [PyData.weightAll]⟩
  | d :: ds, h => by
    obtain ⟨a, b, c, e⟩ := gd_all (fun x hx => h x (List.mem_cons_of_mem _ hx))
    have g := h d (List.mem_cons_self ..)
    refine ⟨by simp [PyData.leavesShortAll, g.short, a], by simp [PyData.showableAll, g.show_, b], ?_, ?_⟩
    · simp only [PyData.depthAll]; have := g.depth; omega
    · simp only [PyData.weightAll, List.length_cons, Nat.succ_mul]; have := g.weight; omega
theorem gd_tup {n k m N : Nat} {ds : List PyData} (h : ∀ d ∈ ds, Gd n k d) (hl : ds.length ≤ m) (hN : m * (n + 1) ≤ N) : Gd N (k + 1) (.tuple ds) := by
  obtain ⟨a, b, c, e⟩ := gd_all h
  have : ds.length * (n + 1) ≤ m * (n + 1) := Nat.mul_le_mul_right _ hl
  exact ⟨by simpa [PyData.leavesShort] using a, by simpa [PyData.showable] using b, by simp only [PyData.depth]; omega, by simp only [PyData.weight]; omega⟩
theorem gd_lst {n k m N : Nat} {ds : List PyData} (h : ∀ d ∈ ds, Gd n k d) (hl : ds.length ≤ m) (hN : m * (n + 1) ≤ N) : Gd N (k + 1) (.list ds) := by
  obtain ⟨a, b, c, e⟩ := gd_all h
  have : ds.length * (n + 1) ≤ m * (n + 1) := Nat.mul_le_mul_right _ hl
  exact ⟨by simpa [PyData.leavesShort] using a, by simpa [PyData.showable] using b, by simp only [PyData.depth]; omega, by simp only [PyData.weight]; omega⟩

section
variable {X : Cx}
/-- repr of data, where nothing shows itself -/
theorem call_reprD (hq : Quiet X.A) (hu : X.A.units + 64 < cLine) : CallR X (.builtin "repr") (fun xs H Q => ∃ v d n k, xs = [v] ∧ Da H v d ∧ Gd n k d ∧ (n ≤ 2 ^ 20 ∧ k ≤ 20) ∧ Q (.str d.shown) H) := by
  intro pins s σ H xs us Q I r h
  obtain ⟨v, d, n, k, rfl, hd, g, ⟨hn, hk⟩, q⟩ := h
  obtain ⟨u, rfl, ru⟩ := vals1 r
  have fits := g.fits hn
  have tail : ∀ (A : Addr), u = .ref A → wpAny (model X.prog X.w) X.A (call (.builtin "repr") [u]) (EP X pins σ Q) X.xe s := by
    rintro a rfl
    obtain ⟨as, hr, hns⟩ := Da.reads I hd ru
    refine repr_of_reads' (h₀ := s.heap) hr g.show_ (fun _ => hns) hq (by have := g.depth; omega) (fun _ _ z => z) (fun h' t tk hk => ?_) fits
    exact ⟨.str d.shown, H, I.kept hk, ⟨_, rfl⟩, q⟩
  cases hd with
  | non => cases ru; exact P.repr_of_none ⟨.str _, H, I.tok _, ⟨_, rfl⟩, q⟩
  | bl b =>
    cases ru
    refine P.repr_of_bool ?_
    exact ⟨.str _, H, I.tok _, ⟨_, rfl⟩, q⟩
  | int i =>
    obtain ⟨t, rfl⟩ := ru
    have hz : i.natAbs.log2 < 1920 := by have := g.show_; simpa [PyData.showable] using this
    exact P.repr_of_int hz ⟨.str _, H, I.tok _, ⟨_, rfl⟩, q⟩
  | str x =>
    obtain ⟨t, rfl⟩ := ru
    exact P.repr_of_str ⟨.str _, H, I.tok _, ⟨_, rfl⟩, q⟩ fits
  | lst e n t => cases ru; exact tail _ rfl
  | tup e t => cases ru; exact tail _ rfl
  | dct e t => cases ru; exact tail _ rfl
end
end G

namespace G
open PySem PySem.Spec PyProof.Rows L2

/-! ### errors of own classes as values: made, read, asked for their class -/
/-- what the written part says of an error's class -/
structure EC (K : PySem.W.Frag) (C : Addr) : Prop where
  ox : OexC K C
  hd : PySem.W.hasDictIn K C = true
  ga : PySem.W.findIn K (.ref C) "__getattribute__" = some (some (.builtin "BaseException.__getattribute__"))
  gg : PySem.W.findIn K (.ref C) "__getattr__" = some none
  nv : PySem.W.findIn K (.ref C) "value" = some none
  kl : PySem.W.findIn K (.ref C) "__class__" = some (some (.builtin "object.__class__"))
  ob : PySem.W.mroIn K C (.type "object") = some true
structure EK (K : PySem.W.Frag) : Prop where
  sp : PySem.W.specialIn K (.builtin "object.__class__") "__get__" = some (some (.builtin "getset_descriptor.__get__"))
  tk : PySem.W.takesIn K (.builtin "object.__class__") = some true
/-- an error of the class at C that keeps v -/
def ErrAt (H : Hp) (a C : Addr) (v : V) : Prop := ∃ d, H a = some (exo a C (some d)) ∧ H d = some (exd d [("value", v)])
theorem ErrAt.same {H H' : Hp} (S : Same H H') {a C : Addr} {v : V} (e : ErrAt H a C v) : ErrAt H' a C v := let ⟨d, h1, h2⟩ := e; ⟨d, S _ _ h1, S _ _ h2⟩
theorem EC.cls {K : PySem.W.Frag} {C : Addr} (T : EC K C) : (PySem.W.clsIn K C).isSome = true := by
  have h := T.hd
  unfold PySem.W.hasDictIn at h
  cases e : PySem.W.clsIn K C with
  | none => rw [e] at h; exact absurd h (by decide)
  | some c => rfl
section
variable {X : Cx}
theorem err_inst {pins : List (Addr × Obj)} {σ : L2.St} {H : Hp} {s : Shared} (I : Inv X pins σ H s) {a C : Addr} {v : V} (e : ErrAt H a C v) :
    ∃ (ox : Obj) (od : Obj) (mA : Str → Option Value) (dx : Addr), PySem.W.InstAt s.heap a ox C (some od) ∧ s.heap.Ns1 dx mA ∧ s.heap.get? dx = some od ∧ (∀ f, RelO (([("value", v)] : List (Str × V)).lookup f) (mA f)) := by
  obtain ⟨d, h1, h2⟩ := e
  obtain ⟨t1, ho⟩ := exo_at I.hok h1
  obtain ⟨mA, hn, hr⟩ := exd_at I.hok h2
  obtain ⟨o, es, ep, hd, hz⟩ := id hn
  exact ⟨_, o, mA, d, ⟨ho, rfl, rfl, hd⟩, hn, hd, hr⟩
/-- e.value -/
theorem pe_value {e : Expr} {te : TE} {pos : Pos} (he : PE X e te) (hb : attributeBase e "value" X.env (eval e X.env) = eval e X.env := by rfl) :
    PE X (.Attribute e "value" pos) (fun σ H Q => te σ H fun x H1 => ∃ a C v, x = .ref a ∧ EC X.K C ∧ ErrAt H1 a C v ∧ Q v H1) := by
  constructor
  intro pins s σ H Q I h
  refine attr_of hb (thn (he.run pins s σ H _ I h) ?_)
  rintro u s1 ⟨x, H1, I1, rx, a, C, v, rfl, T, ea, q⟩
  cases rx
  obtain ⟨ox, od, mA, dx, J, hn, hd, hr⟩ := err_inst I1 ea
  obtain ⟨od', hod, hl⟩ := lookIn_ns hn
  have eo : od' = od := Option.some.inj (hod.symm.trans hd)
  subst eo
  obtain ⟨u, hu, ru⟩ := RelO.some_of (v := v) (o := mA "value") (by have := hr "value"; simpa [List.lookup] using this)
  exact HandSPX.exc_get I1.kIn J T.ga T.gg T.ox.exC (PySem.W.findObj_own T.hd T.nv rfl (by rw [hl, hu])) (handed_of ru) ⟨v, H1, I1.tok _, ru, q⟩
/-- isinstance(e, C) of such an error -/
theorem call_isErr (S : EK X.K) : CallR X (.builtin "isinstance") (fun xs H Q => ∃ (a C : Addr) (v c : V) (u : Value) (b : Bool), xs = [.ref a, c] ∧ ClsV c u ∧ EC X.K C ∧ ErrAt H a C v ∧ PySem.W.kitOne X.K (.ref C) u = some b ∧ Q (.bl b) H) := by
  intro pins s σ H xs us Q I r h
  obtain ⟨a, C, v, c, u, b, rfl, k, T, ea, e, q⟩ := h
  obtain ⟨u1, u2, rfl, r1, r2⟩ := vals2 r
  have e2 := k.eq r2
  subst e2
  cases r1
  obtain ⟨ox, od, mA, dx, J, hn, hd, hr⟩ := err_inst I ea
  exact PySem.W.kia_one (PySem.W.kitx_exc (gt := none) T.cls T.ga T.gg T.ox.exC T.kl S.sp S.tk T.ob) I.kIn J e (fun z => nomatch z) fun tk => ⟨.bl b, H, I.tok tk, rfl, q⟩

/-- what __init__ of the errors promises: the first attribute, value -/
def spErrInit (K : PySem.W.Frag) : Sp := fun vs H Q _ => ∃ (a C : Addr) (v : V), vs = [.ref a, v] ∧ OexC K C ∧ PySem.W.findIn K (.ref C) "value" = some none ∧ H a = some (exo a C none) ∧
  ∀ dx, H dx = none → dx ≠ a → Q .non (upd (upd H dx (exd dx [("value", v)])) a (exo a C (some dx)))
/-- C(e): a new error of the class at C, with its dict -/
def tErr (C : Addr) (ta : TA) : TE := fun σ H Q => ta σ H fun vs H1 => ∃ v, vs = [v] ∧ ∀ a H2, H1 a = none → Same H1 H2 → ErrAt H2 a C v → Q (.ref a) H2
theorem pe_err {CX : CXT} {k : Nat} {fI C : Addr} {fd : FuncData} {x : Str} {e : Expr} {ta : TA} {p pos : Pos} (T : EC X.K C) (iC : PySem.W.findIn X.K (.ref C) "__init__" = some (some (.ref fI))) (tI : PySem.W.typeIn X.K (.ref fI) = some (.type "function"))
    (F : FnOk X.prog X.w X.K X.mg X.base CX k fI fd ["self", "value"] (spErrInit X.K)) (hr : Room (k + 1) X.A) (hb : Binds X.K fd ["self", "value"] []) (hx : Passes CX X (fun _ _ _ => False)) (hg : Gl X x) (hm : X.mg x = some (.ref C)) (ha : PA X [e] ta)
    (hdb : (x == ("__debug__" : Str)) = false := by decide) (he : starEach (e :: []) X.env = (false, eval e X.env) :: starEach [] X.env := by rfl) (hpl : (backTo pos (starEach [] X.env)).any (·.1) = false := by rfl) :
    PE X (.Call (.Name x p) [e] [] pos) (tErr C ta) := by
  constructor
  intro pins s σ H Q I h
  obtain ⟨nm, q, N, bs, bm, sn, sub, ab, col, dd, k0, k1, k2, k3, k5, hC, hbm⟩ := T.ox.cls
  apply wpAny_Call_Name_kw
  apply ld_glob I hg hm _ hdb
  apply PySem.W.callWith_K (h₀ := X.base) I.ok.mod.kin T.ox.kC _ he hpl
  apply thn (ha.run pos pins s σ H _ I h)
  rintro us s1 ⟨vs, H1, I1, r1, v, rfl, q1⟩
  refine ⟨I1.kIn, ?_⟩
  obtain ⟨u, rfl, ru⟩ := vals1 r1
  show wpAny _ _ (call (.ref C) [u]) _ _ _
  obtain ⟨hp, g, dr, tk, os⟩ := s1
  have up : hp.objs.size ≤ hp.objs.size + 1 := Nat.le_succ _
  have fresh : H1 (hp.objs.size + 1) = none := I1.hok.fresh up
  have keep : ∀ b o, hp.get? b = some o → ((hp.push (PySem.W.kdv_tup [u])).push (PySem.HandSPX.excO C hp.objs.size)).get? b = some o := fun b o z => Heap.get?_push_of_some _ (Heap.get?_push_of_some _ z)
  have here : ((hp.push (PySem.W.kdv_tup [u])).push (PySem.HandSPX.excO C hp.objs.size)).get? (hp.objs.size + 1) = some (PySem.HandSPX.excO C hp.objs.size) := by heap_get
  have J := I1.laid (t' := tk) (a := hp.objs.size + 1) (o := exo (hp.objs.size + 1) C none) keep up (exo_ok here)
  have sp : spErrInit X.K [.ref (hp.objs.size + 1), v] (upd H1 (hp.objs.size + 1) (exo (hp.objs.size + 1) C none)) (fun w H2 => w = .non ∧ Q (.ref (hp.objs.size + 1)) H2) (fun _ _ _ => False) := by
    refine ⟨hp.objs.size + 1, C, v, rfl, T.ox, T.nv, upd_same, fun dx hdx hne => ⟨rfl, q1 _ _ fresh ?_ ⟨dx, upd_same, ?_⟩⟩⟩
    · intro b o z
      rw [upd_ne hne] at hdx
      rw [upd_ne (ne_of_none z fresh), upd_ne (ne_of_none z hdx), upd_ne (ne_of_none z fresh)]
      exact z
    · rw [upd_ne hne]; exact upd_same
  apply wpAny_call
  apply PySem.HandSPX.call_own F_ve (fun Y => PySem.HandSPX.refsVE_contains Y bm hbm) (I1.kIn _ _ hC) (PySem.W.looks_findIn I1.kIn iC) (fun self => PySem.W.bind_fn I1.kIn self tI) (by rw [List.length_singleton, sizeLine_eq]; omega)
  have B := hb ⟨(hp.push (PySem.W.kdv_tup [u])).push (PySem.HandSPX.excO C hp.objs.size), g, dr, tk, os⟩ [.ref (hp.objs.size + 1), u] J.kIn rfl
  apply codeAny_mono (F.run _ X.stack _ _ ⟨[.ref (hp.objs.size + 1), u], []⟩ [.ref (hp.objs.size + 1), u] [.ref (hp.objs.size + 1), v] _ (fun _ _ _ => False) (hr.make C [u] []) (J.env0.make C [u] []) B (.cons rfl (.cons ru .nil)) sp)
  intro res s' done
  match res, done with
  | .error er, z => exact hx pins σ _ _ er s' J z
  | .ok .next, z => exact z.elim
  | .ok .brk, z => exact z.elim
  | .ok .cont, z => exact z.elim
  | .ok (.ret w), z =>
    obtain ⟨y, H2, J2, ry, ey, q2⟩ := J.after z
    subst ey
    exact ⟨ry, .ref (hp.objs.size + 1), H2, J2, rfl, q2⟩
where F_ve := PySem.F.excBase_ValueError
end
end G

namespace G
open PySem PySem.Spec PyProof.Rows L2

/-! ### the law's own call, entered while nothing shows itself -/
theorem lawCall {P : Program} {w : World} {K : PySem.W.Frag} {mg mb : Str → Option Value} {k : Nat} {fa a : Addr} {fd : FuncData} {x : Str} {sp : Sp} {s₁ : Shared} {vs : List Value} {ns : List Int}
    (KX : K.In s₁.heap) (glob : s₁.heap.Ns mainGlobals mg) (bltn : s₁.heap.Ns builtinsNs mb) (boot : ∀ x : Str, x ≠ "__name__" → mb x = bootBuiltins x) (lim : s₁.heap.NoLimit) (gens : s₁.gens = #[])
    (obj : s₁.heap.get? a = some { cls := .type "list", data := .seq vs.toArray }) (nums : IntsAre vs ns) (short : ns.length ≤ sizeLine) (room : Room k callerA)
    (F : ∀ base : Heap, K.In base → base.Ns mainGlobals mg → Fn P w K mg base CX0 k fa fd [x] sp) (bind : ∀ (s : Shared) (u : Value), BindsTo s fd ⟨[u], []⟩ [(x, u)])
    (told : ∀ H : Hp, Only H → SqL K H a (ns.map V.int) → sp [.ref a] H (fun v _ => v = .bl true) fun _ _ _ => False) :
    codeAny (model P w) callerA (.call (.ref fa) ⟨[.ref a], []⟩) (fun r s' => r = .ok (.ret (.bool true)) ∧ OldK s₁.heap s'.heap ∧ s'.os = s₁.os ∧ AllBare s'.gens) s₁ := by
  have rv := vals_ints nums
  have lenV := nums.length
  -- over an abstract heap that knows of the script at most
  suffices core : ∀ H : Hp, Only H → SqL K H a (ns.map V.int) → HOk P w H s₁.heap → (∀ b, H b ≠ none → b = a) → (H a ≠ none → K.lookup a = none) →
      codeAny (model P w) callerA (.call (.ref fa) ⟨[.ref a], []⟩) (fun r s' => r = .ok (.ret (.bool true)) ∧ OldK s₁.heap s'.heap ∧ s'.os = s₁.os ∧ AllBare s'.gens) s₁ by
    cases hk : K.lookup a with
    | some o =>
      have z := KX a o hk
      rw [obj] at z
      obtain rfl := Option.some.inj z
      apply core (fun _ => none) (fun _ => Or.inl rfl)
      · exact Or.inr ⟨_, vs.toArray, _, hk, rfl, rfl, rfl, by rw [List.size_toArray, lenV]; exact short, by simpa using rv⟩
      · intro b u z
        exact absurd (show (none : Option HO) = some u from z) (by simp)
      · exact fun b z => absurd rfl z
      · exact fun z => absurd rfl z
    | none =>
      apply core (fun b => if b = a then some (.frz { cls := .type "list", data := .seq vs.toArray } (.lst (ns.map V.int))) else none)
      · intro b
        by_cases hb : b = a
        · exact Or.inr ⟨_, _, if_pos hb⟩
        · exact Or.inl (if_neg hb)
      · exact Or.inl (Or.inr ⟨{ cls := .type "list", data := .seq vs.toArray }, if_pos rfl⟩)
      · intro b u z
        by_cases hb : b = a
        · obtain rfl := Option.some.inj ((if_pos hb).symm.trans z)
          rw [hb]
          exact ⟨obj, by rw [List.length_map]; exact short, vs, _, rv, obj⟩
        · exact absurd ((if_neg hb).symm.trans z) (by simp)
      · intro b z
        by_cases hb : b = a
        · exact hb
        · exact absurd (if_neg hb) z
      · exact fun _ => hk
  intro H hO hS hok hA hK
  have dictFree : ∀ {b : Addr} {o : Obj} {es : Array DictEntry} {ep : Nat}, s₁.heap.get? b = some o → o.data = .dict es ep → H b = none := by
    intro b o es ep e d
    cases q : H b with
    | none => rfl
    | some u =>
      obtain rfl := hA b (by rw [q]; simp)
      rw [obj] at e
      obtain rfl := Option.some.inj e
      exact absurd (show Data.seq vs.toArray _ = Data.dict es ep from d) (by simp)
  have nsB : ∀ {b : Addr} {m : Str → Option Value}, s₁.heap.Ns b m → (hidT s₁.heap H).Ns b m := by
    rintro b m ⟨o, es, ep, e, d, r⟩
    exact ⟨o, es, ep, hidT_get e (dictFree e d), d, r⟩
  have inB : K.In (hidT s₁.heap H) := by
    intro b o e
    apply hidT_get (KX b o e)
    cases q : H b with
    | none => rfl
    | some u =>
      obtain rfl := hA b (by rw [q]; simp)
      rw [hK (by rw [q]; simp)] at e
      exact absurd e (by simp)
  have M : Mod K mg (hidT s₁.heap H) := by
    obtain ⟨mc, l1, l2⟩ := lim
    exact ⟨inB, nsB glob, ⟨mb, nsB bltn, boot⟩, ⟨mc, nsB l1, l2⟩⟩
  have none_in : ∀ b : Addr, ¬ b ∈ frs ([] : List Env) := fun b z => absurd (show b ∈ ([] : List Addr) from z) (by simp)
  have e0 : Env0 P w K mg (hidT s₁.heap H) callerA [] s₁ H := ⟨rfl, M, fun b o e => of_hidT e, Nat.le_of_eq (hidT_size _ _), trivial, fun b hb => absurd hb (none_in b), hok, .of_eq gens⟩
  apply codeAny_mono ((F _ inB (nsB glob)).run callerA [] s₁ H ⟨[.ref a], []⟩ [.ref a] [.ref a] _ _ rfl room e0 (bind s₁ (.ref a)) (.cons rfl .nil) (told H hO hS))
  intro r s' h
  match r, h with
  | .error e, h => exact h.elim
  | .ok .next, h => exact h.elim
  | .ok .brk, h => exact h.elim
  | .ok .cont, h => exact h.elim
  | .ok (.ret u), h =>
    obtain ⟨v, H', os, bare, un, hok', r', q⟩ := h
    obtain rfl : v = .bl true := q
    obtain rfl : u = Value.bool true := r'
    refine ⟨rfl, OldK.of_keep fun b o e => ?_, os, bare⟩
    cases q : H b with
    | none => exact un.keep b o e q (none_in b) (by simp)
    | some u =>
      rcases hO b with z | ⟨ob, xs, z⟩
      · rw [q] at z; cases z
      · obtain ⟨e1, _⟩ := hok b _ z
        obtain ⟨e2, _⟩ := hok' b _ (un.frzs b ob _ z)
        rw [e] at e1
        obtain rfl := Option.some.inj e1
        exact e2
theorem walkOf {l : PySem.W.OpenLaw} {n k : Nat} {q : Program} {loose : List Str} {XP : (Str → Option Value) → Heap → Prop} {YP : World → Heap → Prop} {d : DefRec} {K : Params → PySem.W.Frag} {sp : PySem.W.Frag → Sp} {x : Str}
    (hn : l.most = some n) (hn2 : n ≤ sizeLine) (hdf : d.params.defaults = []) (hr : Room k callerA) (hY : ∀ (w : World) (h : Heap), YP w h → (K w.params).In h)
    (F : ∀ (w : World) (mg : Str → Option Value) (fa : Addr) (h : Heap), (K w.params).In h → h.Ns mainGlobals mg → mg d.name = some (.ref fa) →
      ∃ fd : FuncData, (∀ (s : Shared) (u : Value), BindsTo s fd ⟨[u], []⟩ [(x, u)]) ∧ ∀ base : Heap, (K w.params).In base → base.Ns mainGlobals mg → Fn l.prog w (K w.params) mg base CX0 k fa fd [x] (sp (K w.params)))
    (told : ∀ (K : PySem.W.Frag) (H : Hp) (a : Addr) (ns : List Int), ns.length ≤ n → Only H → SqL K H a (ns.map V.int) → sp K [.ref a] H (fun v _ => v = .bl true) fun _ _ _ => False) :
    PySem.W.WalkO q loose XP YP l.row.toRowW d [] (fun f vs => PySem.call f vs) := by
  apply Att.attach_call hn hdf
  intro w s₀ s₁ mg mb fa o pm cd doc a vs ns G Y ho hd hcd hmg hobj hints hlen hg
  have KX := hY w _ Y
  obtain ⟨fd, hb, hF⟩ := F w mg fa _ KX G.T.g hmg
  exact lawCall KX G.T.g G.T.b G.T.builtins G.T.nolimit hg hobj hints (Nat.le_trans hlen hn2) hr hF hb fun H hO hS => told (K w.params) H a ns hlen hO hS
end G

namespace G
open PySem PySem.Spec PyProof.Rows L2 HT

/-! ### further operators -/
/-- a ** b of greater ints -/
def CPowW (i j : Int) : Prop := 2 ≤ i ∧ 1 ≤ j ∧ ((Builtin.Int.intBits i : Nat) : Int) * j ≤ 100000
section
variable {X : Cx}
theorem op_powW : OpR X (binaryOp .Pow) (rI CPowW fun i j => .int (i ^ j.toNat)) := opI fun i j t u s Q E hc q => by
  obtain ⟨h1, h2, h3⟩ := hc
  have n0 : ¬ (j == 0) = true := by simp; omega
  have n1 : ¬ (i == 0 || i == 1) = true := by simp; omega
  have n2 : ¬ (i == -1) = true := by simp; omega
  have n3 : ¬ Builtin.Int.intTooBig (((Builtin.Int.intBits i : Nat) : Int) * j) = true := by
    have e : bitsLine = 134217728 := by decide
    unfold Builtin.Int.intTooBig
    rw [e]
    intro z
    have := of_decide_eq_true z
    omega
  exact PySem.AutoIntOps.pow_4 (by omega) n0 n1 n2 n3 q
end

section
variable {prog : Program} {w : World} {A : Around} {E : Value → Shared → Prop} {s : Shared}
theorem fm_map {α β : Type} {f : α → Option β} {g : α → β} : ∀ (l : List α), (∀ m ∈ l, f m = some (g m)) → l.filterMap f = l.map g
  | [], _ => rfl
  | a :: r, h => by rw [List.filterMap_cons, h a (List.mem_cons_self ..), List.map_cons, fm_map r fun m hm => h m (List.mem_cons_of_mem _ hm)]
theorem back_run (xs : List Value) : ((List.range xs.length).filterMap fun (m : Nat) => xs.toArray[((xs.length : Int) - 1 + (m : Int) * (-1)).toNat]?) = xs.reverse := by
  apply List.ext_getElem?
  intro i
  have e : ((List.range xs.length).filterMap fun (m : Nat) => xs.toArray[((xs.length : Int) - 1 + (m : Int) * (-1)).toNat]?) = (List.range xs.length).map fun (m : Nat) => (xs[xs.length - 1 - m]?).getD .none := by
    apply fm_map
    intro m hm
    have hm' : m < xs.length := List.mem_range.mp hm
    have e1 : ((xs.length : Int) - 1 + (m : Int) * (-1)).toNat = xs.length - 1 - m := by omega
    rw [e1, List.getElem?_toArray, List.getElem?_eq_getElem (by omega)]
    rfl
  rw [e, List.getElem?_map]
  by_cases hi : i < xs.length
  · rw [List.getElem?_range hi, Option.map_some, List.getElem?_eq_getElem (by omega), List.getElem?_reverse hi, List.getElem?_eq_getElem (by omega)]
    rfl
  · rw [List.getElem?_eq_none (by simpa using hi), List.getElem?_eq_none (by rw [List.length_reverse]; omega)]
    rfl
theorem getItem_tuple_back {t sl : Addr} {its : List Value} {u : Tok} {Q : Value → Shared → Prop} (ht : IsTup s.heap t its.toArray) (hs : s.heap.IsSliceOf sl .none .none (.int (-1) u)) (hsz : its.length ≤ sizeLine)
    (h : Q (.ref s.heap.objs.size) { s with heap := s.heap.push { cls := .type "tuple", data := .seq its.reverse.toArray } }) : wpAny (model prog w) A (getItem (.ref t) (.ref sl)) Q E s := by
  have big : sizeOk (.seq its.reverse.toArray) := by
    show its.reverse.toArray.size ≤ sizeLine
    rw [List.size_toArray, List.length_reverse]; exact hsz
  obtain ⟨os, hos, hcs, hds⟩ := id hs
  have hTs : s.TypeIs (.ref sl) "slice" := ⟨os, hos, hcs⟩
  unfold getItem
  try with_reducible refine wpAny_holding ?_
  first | refine wpAny_bind (wpAny_pure ?_) | skip
  apply wpAny_bind
  apply wpAny_sequenceKey ht.typeIs (by decide)
  apply wpAny_bind
  apply wpAny_callSpecial?_slot (name := Str.ofString "__getitem__") ht.typeIs PyProof.Rows.slot_tuple_getitem
  refine wpAny_call_entry PyProof.Rows.slot_tuple_getitem ht.typeIs entry_tuple_getitem ?_ (args_tuple_getitem _ _)
  show wpAny _ _ (Builtin.Tuple.tupleItemsOf (.ref t) >>= _) _ _ s
  apply wpAny_bind
  apply tupleItemsOf_ ht
  apply wpAny_bind
  apply wpAny_typeOf hTs
  rw [if_pos (by decide)]
  apply wpAny_bind
  unfold Builtin.Slice.sliceApplied Builtin.Slice.sliceFields
  apply wpAny_bind
  refine wpAny_bind (wpAny_field hos hds (x := .none) rfl (wpAny_bind (wpAny_field hos hds (x := .none) rfl (wpAny_bind (wpAny_field hos hds (x := .int (-1) u) rfl (wpAny_pure ?_))))))
  apply wpAny_bind
  apply slicePart_int
  show wpAny _ _ (if ((-1 : Int) == 0) = true then _ else _) _ _ s
  rw [if_neg (by decide)]
  refine wpAny_bind (slicePart_none (wpAny_bind (slicePart_none (wpAny_bind (wpAny_pure ?_)))))
  show wpAny _ _ (match Builtin.Slice.sliceAdjust none none (-1) (its.toArray.size : Int) with | (lo, hi) => pure (lo, (-1 : Int), Builtin.Slice.slicePlaces lo hi (-1))) _ _ s
  have e1 : Builtin.Slice.sliceAdjust none none (-1) (its.toArray.size : Int) = ((its.length : Int) - 1, -1) := by
    unfold Builtin.Slice.sliceAdjust
    have h1 : ((-1 : Int) < 0) := by omega
    simp [h1]
  have e2 : Builtin.Slice.slicePlaces ((its.length : Int) - 1) (-1) (-1) = its.length := by
    unfold Builtin.Slice.slicePlaces
    simp
    split <;> omega
  rw [e1]
  show wpAny _ _ (pure ((its.length : Int) - 1, (-1 : Int), Builtin.Slice.slicePlaces ((its.length : Int) - 1) (-1) (-1))) _ _ s
  rw [e2]
  refine wpAny_pure ?_
  have no : ¬ ((((its.length : Int) - 1 == 0) && ((-1 : Int) == 1) && (its.length == its.toArray.size)) = true) := by
    have : ((-1 : Int) == 1) = false := by decide
    rw [this, Bool.and_false, Bool.false_and]
    exact Bool.false_ne_true
  show wpAny _ _ (if ((((its.length : Int) - 1 == 0) && ((-1 : Int) == 1) && (its.length == its.toArray.size)) = true) then _ else _) _ _ s
  rw [if_neg no, back_run]
  first
    | exact wpAny_bind (m := Builtin.Tuple.tupleExact _) (wpAny_newObj_type (wpAny_pure ⟨_, rfl, wpAny_pure h⟩) big)
    | exact wpAny_bind (m := Builtin.Tuple.tupleExact _) (wpAny_newObj_type (wpAny_bind (wpAny_pure (wpAny_pure ⟨_, rfl, wpAny_pure h⟩))) big)
    | exact wpAny_bind (wpAny_bind (m := Builtin.Tuple.tupleExact _) (wpAny_newObj_type (wpAny_pure (wpAny_pure ⟨_, rfl, wpAny_pure h⟩)) big))
    | exact wpAny_bind (wpAny_bind (m := Builtin.Tuple.tupleExact _) (wpAny_newObj_type (wpAny_pure ⟨_, rfl, wpAny_pure h⟩) big))
end
section
variable {X : Cx}
/-- t[::-1], t a tuple -/
def tRevT (te : TE) : TE := fun σ H Q => te σ H fun x H1 => ∃ a xs, x = .ref a ∧ H1 a = some (.tup xs) ∧ ∀ p, H1 p = none → Q (.ref p) (upd H1 p (.tup xs.reverse))
theorem pe_revT {e : Expr} {te : TE} {k : Nat} {p1 p2 p3 pos : Pos} (he : PE X e te) : PE X (.Subscript e (.Slice none none (some (.UnaryOp .USub (.Constant (.int 1) k p1) p2)) p3) pos) (tRevT te) := by
  constructor
  intro pins s σ H Q I h
  apply Subscript_
  apply thn (he.run pins s σ H _ I h)
  rintro v s1 ⟨x, H1, I1, r1, a, xs, rfl, hx, q⟩
  cases r1
  have part : PO X (some (.UnaryOp .USub (.Constant (.int 1) k p1) p2)) (tPart (tUn (rU fun i => .int (-i)) (tC (.int 1)))) := po_some (pe_un un_neg pe_int)
  apply wpAny_Slice
  apply thn (po_none.run pins s1 σ H1 (fun o H2 => o = none ∧ H2 = H1) I1 ⟨rfl, rfl⟩)
  rintro vl s2 ⟨l, H2, I2, pl, rfl, rfl⟩
  apply thn (po_none.run pins s2 σ H2 (fun o H3 => o = none ∧ H3 = H2) I2 ⟨rfl, rfl⟩)
  rintro vu s3 ⟨u, H3, I3, pu, rfl, rfl⟩
  apply thn (part.run pins s3 σ H3 (fun o H4 => o = some (-1) ∧ H4 = H3) I3 ⟨1, rfl, -1, rfl, rfl, rfl⟩)
  rintro vs s4 ⟨o, H4, I4, ps, rfl, rfl⟩
  cases pl
  cases pu
  cases ps with
  | int _ tk =>
  have I5 : Inv X pins σ H4 { s4 with heap := s4.heap.push { cls := .type "slice", data := .fields #[.none, .none, .int (-1) tk] } } := I4.kept (t' := s4.toks) fun b ob z => Heap.get?_push_of_some _ z
  obtain ⟨hz, its, r, ht⟩ := I5.hok a _ hx
  have hl := r.length
  show wpAny (model X.prog X.w) X.A (subscriptTail e (.Slice none none (some (.UnaryOp .USub (.Constant (.int 1) k p1) p2)) p3) (.ref a) (.ref s4.heap.objs.size)) (EP X pins σ Q) X.xe { s4 with heap := s4.heap.push { cls := .type "slice", data := .fields #[.none, .none, .int (-1) tk] } }
  apply tail_any (ops := [.ref a, .ref s4.heap.objs.size]) (IsTup.typeIs ht) PyProof.Rows.slot_tuple_getitem.lookup _ (by with_unfolding_all rfl)
  apply getItem_tuple_back ht (Heap.IsSliceOf.new _ .none .none (.int (-1) tk)) (by omega)
  refine ⟨.ref _, _, I5.laid (t' := s4.toks) (o := .tup xs.reverse) (fun b ob z => Heap.get?_push_of_some _ z) (Nat.le_refl _) ?_, rfl, q _ (I5.hok.fresh (Nat.le_refl _))⟩
  exact ⟨by rw [List.length_reverse]; exact hz, _, r.reverse, ⟨_, Heap.get?_push_size _ rfl, rfl, _, rfl⟩⟩
/-- a list display, whose place is not the table of modules -/
def tLstS (t : TA) : TE := fun σ H Q => t σ H fun xs H1 => xs.length ≤ sizeLine ∧ ∀ p, H1 p = none → p ≠ sysModules → Q (.ref p) (upd H1 p (.lst xs))
theorem pe_lstS {es : List Expr} {t : TA} {pos : Pos} (h : PA X es t) : PE X (.List es pos) (tLstS t) := by
  constructor
  intro pins s σ H Q I hq
  apply wpAny_List_spliced
  apply thn (h.run pos pins s σ H _ I hq)
  rintro us s1 ⟨xs, H1, I1, r, z, q⟩
  refine ⟨by rw [← r.length]; exact z, ?_⟩
  refine ⟨.ref s1.heap.objs.size, upd H1 s1.heap.objs.size (.lst xs), I1.laid (t' := s1.toks) (fun b u e => Heap.get?_push_of_some _ e) (Nat.le_refl _) ?_, rfl, q _ (I1.hok.fresh (Nat.le_refl _)) (Nat.ne_of_gt I1.big)⟩
  exact ⟨z, us, 0, r, Heap.get?_push_size _ rfl⟩
end
end G

namespace G
open PySem PySem.Spec PyProof.Rows L2

/-! ### data apart from some addresses -/
open Classical in
noncomputable def mask (N : Addr → Prop) (H : Hp) : Hp := fun b => if N b then none else H b
theorem mask_out {N : Addr → Prop} {H : Hp} {b : Addr} (h : ¬ N b) : mask N H b = H b := by unfold mask; rw [if_neg h]
theorem mask_in {N : Addr → Prop} {H : Hp} {b : Addr} (h : N b) : mask N H b = none := by unfold mask; rw [if_pos h]
theorem mask_some {N : Addr → Prop} {H : Hp} {b : Addr} {o : HO} (h : mask N H b = some o) : ¬ N b ∧ H b = some o := by
  by_cases e : N b
  · rw [mask_in e] at h; cases h
  · rw [mask_out e] at h; exact ⟨e, h⟩
theorem mask_le (N : Addr → Prop) (H : Hp) : Same (mask N H) H := fun b o h => (mask_some h).2
theorem mask_mono {N : Addr → Prop} {H H' : Hp} (S : Same H H') : Same (mask N H) (mask N H') := fun b o h => by
  rw [mask_out (mask_some h).1]; exact S b o (mask_some h).2
theorem mask_less {N M : Addr → Prop} {H : Hp} (h : ∀ b, M b → N b) : Same (mask N H) (mask M H) := fun b o e => by
  rw [mask_out fun z => (mask_some e).1 (h b z)]; exact (mask_some e).2
theorem same_new {H : Hp} {q : Addr} {o : HO} (h : H q = none) : Same H (upd H q o) := fun b u e => by rw [upd_ne (ne_of_none e h)]; exact e

def Is (N : Addr → Prop) (H : Hp) (G : PyData → Prop) (v : V) : Prop := ∃ d, Da (mask N H) v d ∧ G d
theorem Is.same {N : Addr → Prop} {H H' : Hp} {G : PyData → Prop} {v : V} (S : Same H H') (h : Is N H G v) : Is N H' G v := let ⟨d, a, g⟩ := h; ⟨d, a.same (mask_mono S), g⟩
theorem Is.less {N M : Addr → Prop} {H : Hp} {G : PyData → Prop} {v : V} (h : ∀ b, M b → N b) (x : Is N H G v) : Is M H G v := let ⟨d, a, g⟩ := x; ⟨d, a.same (mask_less h), g⟩
theorem Is.imp {N : Addr → Prop} {H : Hp} {G G' : PyData → Prop} {v : V} (h : ∀ d, G d → G' d) (x : Is N H G v) : Is N H G' v := let ⟨d, a, g⟩ := x; ⟨d, a, h d g⟩
theorem is_int {N : Addr → Prop} {H : Hp} {G : PyData → Prop} {i : Int} (g : G (.int i)) : Is N H G (.int i) := ⟨_, .int i, g⟩
theorem is_str {N : Addr → Prop} {H : Hp} {G : PyData → Prop} {x : Str} (g : G (.str x)) : Is N H G (.str x) := ⟨_, .str x, g⟩
theorem is_bl {N : Addr → Prop} {H : Hp} {G : PyData → Prop} {b : Bool} (g : G (.bool b)) : Is N H G (.bl b) := ⟨_, .bl b, g⟩
theorem is_non {N : Addr → Prop} {H : Hp} {G : PyData → Prop} (g : G .none) : Is N H G .non := ⟨_, .non, g⟩
theorem daAll_of {N : Addr → Prop} {H : Hp} {G : PyData → Prop} : ∀ {xs : List V}, (∀ x ∈ xs, Is N H G x) → ∃ ds, DaAll (mask N H) xs ds ∧ ds.length = xs.length ∧ ∀ d ∈ ds, G d
  | [], _ => ⟨[], .nil, rfl, fun _ h => nomatch h⟩
  | x :: xs, h => by
    obtain ⟨d, a, g⟩ := h x (List.mem_cons_self ..)
    obtain ⟨ds, b, l, gs⟩ := daAll_of (xs := xs) fun y hy => h y (List.mem_cons_of_mem _ hy)
    refine ⟨d :: ds, .cons a b, by rw [List.length_cons, List.length_cons, l], fun y hy => ?_⟩
    rcases List.mem_cons.mp hy with e | hy
    · rw [e]; exact g
    · exact gs y hy
theorem is_of_daAll {N : Addr → Prop} {H : Hp} {G : PyData → Prop} : ∀ {xs : List V} {ds : List PyData}, DaAll (mask N H) xs ds → (∀ d ∈ ds, G d) → ∀ x ∈ xs, Is N H G x
  | _, _, .nil, _, _, h => nomatch h
  | _, _, .cons (d := d) a b, g, x, h => by
    rcases List.mem_cons.mp h with e | h
    · rw [e]; exact ⟨d, a, g d (List.mem_cons_self ..)⟩
    · exact is_of_daAll b (fun y hy => g y (List.mem_cons_of_mem _ hy)) x h
theorem is_tup {N : Addr → Prop} {H : Hp} {G G' : PyData → Prop} {a : Addr} {xs : List V} (hN : ¬ N a) (ha : H a = some (.tup xs)) (hx : ∀ x ∈ xs, Is N H G' x) (g : ∀ ds : List PyData, ds.length = xs.length → (∀ d ∈ ds, G' d) → G (.tuple ds)) : Is N H G (.ref a) := by
  obtain ⟨ds, b, l, gs⟩ := daAll_of hx
  exact ⟨_, .tup (by rw [mask_out hN]; exact ha) b, g ds l gs⟩
theorem is_lst {N : Addr → Prop} {H : Hp} {G G' : PyData → Prop} {a : Addr} {xs : List V} (hN : ¬ N a) (ha : H a = some (.lst xs)) (hs : a ≠ sysModules) (hx : ∀ x ∈ xs, Is N H G' x) (g : ∀ ds : List PyData, ds.length = xs.length → (∀ d ∈ ds, G' d) → G (.list ds)) : Is N H G (.ref a) := by
  obtain ⟨ds, b, l, gs⟩ := daAll_of hx
  exact ⟨_, .lst (by rw [mask_out hN]; exact ha) hs b, g ds l gs⟩

/-! ### what evaluates to good data, leaving all that is tracked as it is -/
def EvG (N : Addr → Prop) (te : TE) (σ : L2.St) (H : Hp) (G : PyData → Prop) : Prop := ∀ H1, Same H H1 → ∀ Q : VK, (∀ v H2, Same H1 H2 → Is N H2 G v → Q v H2) → te σ H1 Q
def EvGA (N : Addr → Prop) (ta : TA) (σ : L2.St) (H : Hp) (G : PyData → Prop) (m : Nat) : Prop :=
  ∀ H1, Same H H1 → ∀ Q : List V → Hp → Prop, (∀ vs H2, Same H1 H2 → vs.length = m → (∀ x ∈ vs, Is N H2 G x) → Q vs H2) → ta σ H1 Q
section
variable {N : Addr → Prop} {σ : L2.St} {H : Hp} {G G' : PyData → Prop} {te : TE} {ta : TA} {m : Nat}
/-- only what is tracked is set apart -/
def Tr (N : Addr → Prop) (H : Hp) : Prop := ∀ b, N b → H b ≠ none
theorem Tr.same {H' : Hp} (t : Tr N H) (S : Same H H') : Tr N H' := fun b h => by
  cases e : H b with
  | none => exact absurd e (t b h)
  | some o => rw [S b o e]; simp
theorem Tr.new {q : Addr} (t : Tr N H) (h : H q = none) : ¬ N q := fun z => t q z h
theorem EvG.mono {H' : Hp} (S : Same H H') (h : EvG N te σ H G) : EvG N te σ H' G := fun H1 S1 Q q => h H1 (S.trans S1) Q q
theorem EvGA.mono {H' : Hp} (S : Same H H') (h : EvGA N ta σ H G m) : EvGA N ta σ H' G m := fun H1 S1 Q q => h H1 (S.trans S1) Q q
theorem evg_is {v : V} (h : ∀ H', Is N H' G v) : EvG N (tC v) σ H G := fun H1 _ Q q => q v H1 (Same.refl _) (h H1)
theorem evg_int {i : Int} (g : G (.int i)) : EvG N (tC (.int i)) σ H G := evg_is fun _ => is_int g
theorem evg_str {x : Str} (g : G (.str x)) : EvG N (tC (.str x)) σ H G := evg_is fun _ => is_str g
theorem evg_bl {b : Bool} (g : G (.bool b)) : EvG N (tC (.bl b)) σ H G := evg_is fun _ => is_bl g
theorem evg_non (g : G .none) : EvG N (tC .non) σ H G := evg_is fun _ => is_non g
theorem evg_neg {i : Int} (g : G (.int (-i))) : EvG N (tUn (rU fun i => .int (-i)) (tC (.int i))) σ H G := fun H1 _ Q q => ⟨i, rfl, q _ H1 (Same.refl _) (is_int g)⟩
theorem evg_pow {i j : Int} (c : CPowW i j) (g : G (.int (i ^ j.toNat))) : EvG N (tOp (rI CPowW fun i j => .int (i ^ j.toNat)) (tC (.int i)) (tC (.int j))) σ H G :=
  fun H1 _ Q q => ⟨i, j, rfl, rfl, c, q _ H1 (Same.refl _) (is_int g)⟩
theorem evg_var {i : Nat} {v : V} (h : σ[i]? = some (some v)) (x : Is N H G v) : EvG N (tVar i) σ H G := fun H1 S Q q => ⟨v, h, q v H1 (Same.refl _) (x.same S)⟩
theorem eva_nil : EvGA N tNil σ H G 0 := fun H1 _ Q q => q [] H1 (Same.refl _) rfl fun _ h => nomatch h
theorem eva_cons {tr : TA} (h : EvG N te σ H G) (hr : EvGA N tr σ H G m) : EvGA N (tCons te tr) σ H G (m + 1) := fun H1 S Q q =>
  h H1 S _ fun v H2 S2 x => hr H2 (S.trans S2) _ fun vs H3 S3 l xs => q (v :: vs) H3 (S2.trans S3) (by rw [List.length_cons, l]) fun y hy => by
    rcases List.mem_cons.mp hy with e | hy
    · rw [e]; exact x.same S3
    · exact xs y hy
theorem evg_tup (t : Tr N H) (h : EvGA N ta σ H G' m) (hm : m ≤ 1000) (g : ∀ ds : List PyData, ds.length = m → (∀ d ∈ ds, G' d) → G (.tuple ds)) : EvG N (tTup ta) σ H G := fun H1 S Q q =>
  h H1 S _ fun vs H2 S2 l xs => ⟨by rw [l, sizeLine_eq]; omega, fun p hp => q (.ref p) _ (S2.trans (same_new hp))
    (is_tup (((t.same S).same S2).new hp) upd_same (fun x hx => (xs x hx).same (same_new hp)) fun ds e => g ds (e.trans l))⟩
theorem evg_lst (t : Tr N H) (h : EvGA N ta σ H G' m) (hm : m ≤ 1000) (g : ∀ ds : List PyData, ds.length = m → (∀ d ∈ ds, G' d) → G (.list ds)) : EvG N (tLstS ta) σ H G := fun H1 S Q q =>
  h H1 S _ fun vs H2 S2 l xs => ⟨by rw [l, sizeLine_eq]; omega, fun p hp hs => q (.ref p) _ (S2.trans (same_new hp))
    (is_lst (((t.same S).same S2).new hp) upd_same hs (fun x hx => (xs x hx).same (same_new hp)) fun ds e => g ds (e.trans l))⟩
theorem evg_dnew (t : Tr N H) (g : G (.dict [])) : EvG N tDNewK σ H G := fun H1 S Q q p hp => q (.ref p) _ (same_new hp)
  ⟨_, .dct (kvs := []) (ds := []) (by rw [mask_out ((t.same S).new hp)]; exact upd_same) .nil, g⟩
/-- {'k': e} -/
theorem evg_dict1 {x : Str} (t : Tr N H) (h : ∀ q H1, Same H H1 → EvG (fun b => N b ∨ b = q) te σ H1 G') (g : ∀ d, G' d → G (.dict [(.str x, d)])) : EvG N (tDisp [(tC (.str x), te)]) σ H G := fun H1 S Q q p hp => by
  refine h p _ (S.trans (same_new hp)) _ (Same.refl _) _ fun v H2 S2 ⟨d, a, gd⟩ => ?_
  have e2 : H2 p = some (.dK []) := S2 _ _ upd_same
  refine ⟨e2, [(Sum.inr x, v)], rfl, by show 1 ≤ 15; decide, ?_⟩
  have keep : Same H1 (upd H2 p (.dK (mergeK [] [(Sum.inr x, v)]))) := fun b o e => by
    rw [upd_ne (ne_of_none e hp)]
    exact S2 b o (by rw [upd_ne (ne_of_none e hp)]; exact e)
  refine q (.ref p) _ keep ⟨_, .dct (kvs := [(Sum.inr x, v)]) (ds := [d]) (by rw [mask_out ((t.same S).new hp)]; exact upd_same) (.cons (a.same ?_) .nil), g d gd⟩
  intro b o e
  obtain ⟨nb, eb⟩ := mask_some e
  have n1 : ¬ N b := fun z => nb (Or.inl z)
  have n2 : b ≠ p := fun z => nb (Or.inr z)
  rw [mask_out n1, upd_ne n2]
  exact eb
/-- a new list of good data, where it is -/
theorem eva_list (t : Tr N H) (h : EvGA N ta σ H G m) (hm : m ≤ 1000) {Q : VK} (q : ∀ l xs H2, Same H H2 → H l = none → H2 l = some (.lst xs) → l ≠ sysModules → xs.length = m → (∀ x ∈ xs, Is N H2 G x) → Q (.ref l) H2) : tLstS ta σ H Q :=
  h H (Same.refl _) _ fun vs H2 S2 l xs => ⟨by rw [l, sizeLine_eq]; omega, fun p hp hs => q p vs _ (S2.trans (same_new hp)) (Same.free S2 hp) upd_same hs l fun x hx => (xs x hx).same (same_new hp)⟩
end
end G

namespace G
open PySem PySem.Spec PyProof.Rows L2
section
variable {X : Cx}
/-- list(t), t a tuple: the new list is not the table of modules -/
def rListT : List V → Hp → VK → Prop := fun xs H Q => ∃ p ys, xs = [.ref p] ∧ H p = some (.tup ys) ∧ ∀ l, H l = none → l ≠ sysModules → Q (.ref l) (upd H l (.lst ys))
theorem call_listT : CallR X (.type "list") rListT := by
  intro pins s σ H xs us Q I r h
  obtain ⟨p, ys, rfl, hp, q⟩ := h
  obtain ⟨u, rfl, rx⟩ := vals1 r
  cases rx
  obtain ⟨its, r', ⟨o, ho, hc, n, hd⟩, hz⟩ := I.tuple (SqT.of hp)
  have hlen := r'.length
  refine call_list_seq p (.inr rfl) ho hc hd (fun h' c' kp e => ?_) (by simp only [List.size_toArray] <;> omega)
  refine ⟨.ref s.heap.objs.size, _, I.laid (t' := s.toks) kp (Nat.le_refl _) (o := .lst ys) ⟨hz, its, c', r', e⟩, rfl, q _ (I.hok.fresh (Nat.le_refl _)) (Nat.ne_of_gt I.big)⟩
end

section
variable {K : PySem.W.Frag} {N : Addr → Prop} {σ : L2.St} {H : Hp} {G G' : PyData → Prop} {te tf : TE} {tl th : TO} {m : Nat}
/-! ### tuples: parts, sums, the other way about -/
theorem cutV_mem {xs : List V} {lo hi : Option Int} {x : V} (h : x ∈ cutV xs lo hi) : x ∈ xs := List.mem_of_mem_drop (List.mem_of_mem_take h)
theorem slA_any {a : Addr} {xs : List V} {lo hi : Option Int} {Q : VK} (ha : H a = some (.tup xs)) (q : ∀ b ys H1, Same H H1 → H1 b = some (.tup ys) → (b = a ∨ H b = none) → (∀ y ∈ ys, y ∈ xs) → ys.length ≤ xs.length → Q (.ref b) H1) : rSlA K (.ref a) lo hi H Q :=
  ⟨a, xs, rfl, SqT.of ha, fun _ => q a xs H (Same.refl _) ha (.inl rfl) (fun _ h => h) (Nat.le_refl _), fun _ p hp => q p _ _ (same_new hp) upd_same (.inr hp) (fun _ h => cutV_mem h) (cutV_length _ _ _)⟩
theorem catA_any {a b : Addr} {xs ys : List V} {Q : VK} (ha : H a = some (.tup xs)) (hb : H b = some (.tup ys)) (hz : xs.length + ys.length ≤ 100000)
    (q : ∀ c H1, Same H H1 → H1 c = some (.tup (xs ++ ys)) → (c = a ∨ c = b ∨ H c = none) → Q (.ref c) H1) : rCatA K (.ref a) (.ref b) H Q := by
  refine ⟨a, b, xs, ys, rfl, rfl, SqT.of ha, SqT.of hb, by rw [sizeLine_eq]; omega, fun e => ?_, fun e1 e2 => ?_, fun e1 e2 p hp => ?_⟩
  · exact q b H (Same.refl _) (by rw [e]; exact hb) (.inr (.inl rfl))
  · exact q a H (Same.refl _) (by rw [e2, List.append_nil]; exact ha) (.inl rfl)
  · exact q p _ (same_new hp) upd_same (.inr (.inr hp))
/-- a tuple of good data, outside of N -/
def IsT (N : Addr → Prop) (H : Hp) (G : PyData → Prop) (m : Nat) (v : V) : Prop := ∃ a xs, v = .ref a ∧ ¬ N a ∧ H a = some (.tup xs) ∧ xs.length ≤ m ∧ ∀ x ∈ xs, Is N H G x
theorem IsT.same {H' : Hp} {v : V} (S : Same H H') (h : IsT N H G m v) : IsT N H' G m v := by
  obtain ⟨a, xs, rfl, n, e, l, x⟩ := h
  exact ⟨a, xs, rfl, n, S _ _ e, l, fun y hy => (x y hy).same S⟩
theorem IsT.is {v : V} (h : IsT N H G' m v) (g : ∀ ds : List PyData, ds.length ≤ m → (∀ d ∈ ds, G' d) → G (.tuple ds)) : Is N H G v := by
  obtain ⟨a, xs, rfl, n, e, l, x⟩ := h
  exact is_tup n e x fun ds e2 => g ds (by omega)
def EvT (N : Addr → Prop) (te : TE) (σ : L2.St) (H : Hp) (G : PyData → Prop) (m : Nat) : Prop := ∀ H1, Same H H1 → ∀ Q : VK, (∀ v H2, Same H1 H2 → IsT N H2 G m v → Q v H2) → te σ H1 Q
/-- an optional part of a slice that is an int -/
def EvO (to : TO) (σ : L2.St) : Prop := ∀ (H1 : Hp) (Q : Option Int → Hp → Prop), (∀ o, Q o H1) → to σ H1 Q
theorem evo_none : EvO tNoPart σ := fun H1 Q q => q _
theorem evo_int {i : Int} : EvO (tPart (tC (.int i))) σ := fun H1 Q q => ⟨i, rfl, q _⟩
theorem evo_neg {i : Int} : EvO (tPart (tUn (rU fun i => .int (-i)) (tC (.int i)))) σ := fun H1 Q q => ⟨i, rfl, _, rfl, q _⟩
theorem evo_var {i : Nat} {j : Int} (h : σ[i]? = some (some (.int j))) : EvO (tPart (tVar i)) σ := fun H1 Q q => ⟨_, h, _, rfl, q _⟩
theorem evo_add {i : Nat} {j k : Int} (h : σ[i]? = some (some (.int j))) : EvO (tPart (tOp (rI0 fun i j => .int (i + j)) (tVar i) (tC (.int k)))) σ := fun H1 Q q => ⟨_, h, _, _, rfl, rfl, _, rfl, q _⟩
theorem EvT.g (h : EvT N te σ H G' m) (g : ∀ ds : List PyData, ds.length ≤ m → (∀ d ∈ ds, G' d) → G (.tuple ds)) : EvG N te σ H G := fun H1 S Q q => h H1 S Q fun v H2 S2 x => q v H2 S2 (x.is g)
theorem evt_var {i : Nat} {v : V} (h : σ[i]? = some (some v)) (x : IsT N H G m v) : EvT N (tVar i) σ H G m := fun H1 S Q q => ⟨v, h, q v H1 (Same.refl _) (x.same S)⟩
theorem evt_tup {ta : TA} (t : Tr N H) (h : EvGA N ta σ H G m) (hm : m ≤ 1000) : EvT N (tTup ta) σ H G m := fun H1 S Q q =>
  h H1 S _ fun vs H2 S2 l xs => ⟨by rw [l, sizeLine_eq]; omega, fun p hp => q (.ref p) _ (S2.trans (same_new hp)) ⟨p, vs, rfl, ((t.same S).same S2).new hp, upd_same, Nat.le_of_eq l, fun x hx => (xs x hx).same (same_new hp)⟩⟩
theorem evt_sl (t : Tr N H) (h : EvT N te σ H G m) (hl : EvO tl σ) (hh : EvO th σ) : EvT N (tSl (rSlA K) te tl th) σ H G m := fun H1 S Q q =>
  h H1 S _ fun v H2 S2 ⟨a, xs, ev, n, e, l, x⟩ => by
    subst ev
    refine hl H2 _ fun lo => hh H2 _ fun hi => slA_any e fun b ys H3 S3 e3 w sub l3 => ?_
    refine q _ H3 (S2.trans S3) ⟨b, ys, rfl, ?_, e3, by omega, fun y hy => (x y (sub y hy)).same S3⟩
    rcases w with w | w
    · rw [w]; exact n
    · exact ((t.same S).same S2).new w
theorem evt_cat {k : Nat} (t : Tr N H) (h : EvT N te σ H G m) (h2 : EvT N tf σ H G k) (hz : m + k ≤ 1000) : EvT N (tOp (rCatA K) te tf) σ H G (m + k) := fun H1 S Q q =>
  h H1 S _ fun v H2 S2 ⟨a, xs, ev, n, e, l, x⟩ => by
    subst ev
    refine h2 H2 (S.trans S2) _ fun w H3 S3 ⟨b, ys, ew, n3, e3, l3, x3⟩ => ?_
    subst ew
    refine catA_any (S3 _ _ e) e3 (by omega) fun c H4 S4 e4 wh => q _ H4 ((S2.trans S3).trans S4) ⟨c, _, rfl, ?_, e4, by rw [List.length_append]; omega, fun y hy => ?_⟩
    · rcases wh with z | z | z
      · rw [z]; exact n
      · rw [z]; exact n3
      · exact (((t.same S).same S2).same S3).new z
    · rcases List.mem_append.mp hy with z | z
      · exact ((x y z).same S3).same S4
      · exact (x3 y z).same S4
theorem evt_rev (t : Tr N H) (h : EvT N te σ H G m) : EvT N (tRevT te) σ H G m := fun H1 S Q q =>
  h H1 S _ fun v H2 S2 ⟨a, xs, ev, n, e, l, x⟩ => ⟨a, xs, ev, e, fun p hp => q _ _ (S2.trans (same_new hp)) ⟨p, _, rfl, ((t.same S).same S2).new hp, upd_same, by rw [List.length_reverse]; exact l, fun y hy => (x y (List.mem_reverse.mp hy)).same (same_new hp)⟩⟩
/-- list(t) -/
theorem evg_listT (t : Tr N H) (h : EvT N te σ H G' m) (g : ∀ ds : List PyData, ds.length ≤ m → (∀ d ∈ ds, G' d) → G (.list ds)) : EvG N (tCB rListT (tCons te tNil)) σ H G := fun H1 S Q q =>
  h H1 S _ fun v H2 S2 ⟨a, xs, ev, n, e, l, x⟩ => ⟨a, xs, by rw [ev], e, fun p hp hs => q _ _ (S2.trans (same_new hp))
    (is_lst (((t.same S).same S2).new hp) upd_same hs (fun y hy => (x y hy).same (same_new hp)) fun ds e2 => g ds (by omega))⟩
/-- a value by itself: what a reading leads to, for sure, the heap as it is -/
theorem evg_to {v : V} (h : ∀ (H1 : Hp) (Q : VK), Q v H1 → te σ H1 Q) (x : ∀ H', Is N H' G v) : EvG N te σ H G := fun H1 _ Q q => h H1 Q (q v H1 (Same.refl _) (x H1))
end
/-! data without dicts, for comparisons -/
mutual
theorem Da.dp {K : PySem.W.Frag} {H : Hp} : ∀ {v : V} {d : PyData}, Da H v d → d.canLay0 = true → Dp K H v d
  | _, _, .non, _ => .non
  | _, _, .bl b, _ => .bl b
  | _, _, .int i, _ => .int i
  | _, _, .str x, _ => .str x
  | _, _, .lst e _ t, h => .lst (SqL.of e) (DaAll.dp t (by simpa [PyData.canLay0] using h))
  | _, _, .tup e t, h => .tup (SqT.of e) (DaAll.dp t (by simpa [PyData.canLay0] using h))
  | _, _, .dct e t, h => by simp [PyData.canLay0] at h
theorem DaAll.dp {K : PySem.W.Frag} {H : Hp} : ∀ {vs : List V} {ds : List PyData}, DaAll H vs ds → PyData.canLayAll0 ds = true → DpAll K H vs ds
  | _, _, .nil, _ => .nil
  | _, _, .cons h t, e => by
    simp only [PyData.canLayAll0, Bool.and_eq_true] at e
    exact .cons (Da.dp h e.1) (DaAll.dp t e.2)
end
end G
namespace G
open PySem PySem.Spec PyProof.Rows L2
theorem s_set {te : TE} {i : Nat} {u : TS} {D : Ends} {σ : L2.St} {H : Hp} (h : te σ H fun x H1 => u D (σ.set i (some x)) H1) : tSeq (tAsg te (gName i)) u D σ H := h
theorem s_ret {te : TE} {D : Ends} {σ : L2.St} {H : Hp} (h : te σ H D.rt) : tRet te D σ H := h
theorem s_seq {t u : TS} {D : Ends} {σ : L2.St} {H : Hp} (h : t { D with nx := u D } σ H) : tSeq t u D σ H := h
theorem s_if {c : TT} {t u : TS} {D : Ends} {σ : L2.St} {H : Hp} (h : c σ H fun b H1 => if b = true then t D σ H1 else u D σ H1) : tIfS c t u D σ H := h
end G
namespace G
open PySem PySem.Spec PyProof.Rows L2
theorem t_op {r : R2} {ta tb : TE} {σ : L2.St} {H : Hp} {Q : VK} (h : ta σ H fun x H1 => tb σ H1 fun y H2 => r x y H2 Q) : tOp r ta tb σ H Q := h
theorem t_cons {ta : TE} {tr : TA} {σ : L2.St} {H : Hp} {Q : List V → Hp → Prop} (h : ta σ H fun x H1 => tr σ H1 fun xs H2 => Q (x :: xs) H2) : tCons ta tr σ H Q := h
end G

namespace G
open PySem PySem.Spec PyProof.Rows L2
/-! ### lists that are put together, with a word about their items -/
def EvP (ta : TA) (σ : L2.St) (H : Hp) (P : Hp → List V → Prop) (m : Nat) : Prop := ∀ H1, Same H H1 → ∀ Q : List V → Hp → Prop, (∀ vs H2, Same H1 H2 → vs.length = m → P H2 vs → Q vs H2) → ta σ H1 Q
def Stays (P : Hp → List V → Prop) : Prop := ∀ H H' vs, Same H H' → P H vs → P H' vs
section
variable {σ : L2.St} {H : Hp} {P P0 P1 : Hp → List V → Prop} {te : TE} {ta : TA} {m : Nat} {Q : VK}
theorem lstP (h : EvP ta σ H P m) (hm : m ≤ 1000) (st : Stays P) (k : ∀ p vs H', Same H H' → H p = none → H' p = some (.lst vs) → vs.length = m → P H' vs → Q (.ref p) H') : tLstS ta σ H Q :=
  h H (Same.refl _) _ fun vs H2 S2 l p => ⟨by rw [l, sizeLine_eq]; omega, fun a ha hs => k a vs _ (S2.trans (same_new ha)) (Same.free S2 ha) upd_same l (st _ _ _ (same_new ha) p)⟩
theorem catP {i : Nat} {l : Addr} {xs : List V} {n : Nat} (hσ : σ[i]? = some (some (.ref l))) (hl : H l = some (.lst xs)) (p0 : P0 H xs) (st0 : Stays P0) (hn : xs.length = n) (h : EvP ta σ H P1 m) (st1 : Stays P1) (hm : n + m ≤ 1000)
    (both : ∀ H xs ys, P0 H xs → P1 H ys → P H (xs ++ ys)) (st : Stays P) (k : ∀ p vs H', Same H H' → H p = none → H' p = some (.lst vs) → vs.length = n + m → P H' vs → Q (.ref p) H') : tOp rCat (tVar i) (tLstS ta) σ H Q := by
  refine ⟨_, hσ, lstP h (by omega) st1 fun p ys H1 S1 np hp ly py => ?_⟩
  refine ⟨_, _, _, _, rfl, rfl, S1 _ _ hl, hp, by rw [hn, ly, sizeLine_eq]; omega, fun q nq => ?_⟩
  exact k q _ _ (S1.trans (same_new nq)) (Same.free S1 nq) upd_same (by rw [List.length_append, hn, ly]) (st _ _ _ (same_new nq) (both _ _ _ (st0 _ _ _ S1 p0) py))
/-- truth values -/
def Bls (bs : List Bool) : Hp → List V → Prop := fun _ vs => vs = bs.map V.bl
theorem bls_stays (bs : List Bool) : Stays (Bls bs) := fun _ _ _ _ h => h
theorem evb_nil : EvP tNil σ H (Bls []) 0 := fun H1 _ Q q => q [] H1 (Same.refl _) rfl rfl
theorem evb_is {K : PySem.W.Frag} {e C Ci : Addr} {v : V} {b : Bool} {bs : List Bool} {i : Nat} (hσ : σ[i]? = some (some (.ref e))) (T : EC K C) (he : ErrAt H e C v) (hk : PySem.W.kitOne K (.ref C) (.ref Ci) = some b) (hr : EvP ta σ H (Bls bs) m) :
    EvP (tCons (tCB (fun xs H Q => ∃ (a C : Addr) (v c : V) (u : Value) (b : Bool), xs = [.ref a, c] ∧ ClsV c u ∧ EC K C ∧ ErrAt H a C v ∧ PySem.W.kitOne K (.ref C) u = some b ∧ Q (.bl b) H) (tCons (tVar i) (tCons (tC (.ref Ci)) tNil))) ta) σ H (Bls (b :: bs)) (m + 1) :=
  fun H1 S Q q => ⟨_, hσ, e, C, v, _, _, b, rfl, .own Ci, T, he.same S, hk, hr H1 S _ fun vs H2 S2 l p => q _ H2 S2 (by rw [List.length_cons, l]) (by rw [p]; rfl)⟩
theorem bls_app {bs cs : List Bool} : ∀ (H : Hp) (xs ys : List V), Bls bs H xs → Bls cs H ys → Bls (bs ++ cs) H (xs ++ ys) := fun _ xs ys h1 h2 => by rw [h1, h2]; exact (List.map_append).symm
/-- errors that keep v, one of each class -/
def Ers (v : V) (Cs : List Addr) : Hp → List V → Prop := fun H vs => Paired (fun x C => ∃ e, x = .ref e ∧ ErrAt H e C v) vs Cs
theorem ers_stays (v : V) (Cs : List Addr) : Stays (Ers v Cs) := fun _ _ _ S h => Paired.mapP h fun _ _ ⟨e, x, y⟩ => ⟨e, x, y.same S⟩
theorem eve_nil {v : V} : EvP tNil σ H (Ers v []) 0 := fun H1 _ Q q => q [] H1 (Same.refl _) rfl .nil
theorem eve_is {C : Addr} {v : V} {Cs : List Addr} {i : Nat} (hσ : σ[i]? = some (some v)) (hr : EvP ta σ H (Ers v Cs) m) : EvP (tCons (tErr C (tCons (tVar i) tNil)) ta) σ H (Ers v (C :: Cs)) (m + 1) :=
  fun H1 S Q q => ⟨_, hσ, v, rfl, fun a H2 na S2 ea => hr H2 (S.trans S2) _ fun vs H3 S3 l p => q _ H3 (S2.trans S3) (by rw [List.length_cons, l]) (.cons ⟨a, rfl, ea.same S3⟩ p)⟩
theorem ers_app {v : V} {Bs Cs : List Addr} : ∀ (H : Hp) (xs ys : List V), Ers v Bs H xs → Ers v Cs H ys → Ers v (Bs ++ Cs) H (xs ++ ys) := fun H xs ys h1 h2 => by
  induction h1 with
  | nil => exact h2
  | cons h _ ih => exact .cons h ih
theorem ers_get {v : V} : ∀ {Cs : List Addr} {H : Hp} {vs : List V} {i : Nat} {x : V}, Ers v Cs H vs → vs[i]? = some x → ∃ e, x = .ref e ∧ ErrAt H e (Cs.getD i 0) v
  | _, _, _, _, _, .nil, h => by simp at h
  | _, _, _, 0, _, .cons h _, e => by obtain rfl := Option.some.inj e; exact h
  | _, _, _, i + 1, _, .cons _ t, e => ers_get (i := i) t e
end
end G
namespace G
open PySem PySem.Spec PyProof.Rows L2
/-- the written part's look at an error's class -/
def ecB (K : PySem.W.Frag) (fI C : Addr) : Bool :=
  decide (PySem.W.findIn K (.ref C) "__setattr__" = some (some (.builtin "object.__setattr__"))) &&
  (decide (PySem.W.subIn K (.ref C) (.type "BaseException") = some true) &&
  (decide (PySem.W.typeIn K (.ref C) = some (.type "type")) &&
  (PySem.W.keepIn K (.ref C) &&
  (PySem.W.hasDictIn K C &&
  (decide (PySem.W.findIn K (.ref C) "__getattribute__" = some (some (.builtin "BaseException.__getattribute__"))) &&
  (decide (PySem.W.findIn K (.ref C) "__getattr__" = some none) &&
  (decide (PySem.W.findIn K (.ref C) "value" = some none) &&
  (decide (PySem.W.findIn K (.ref C) "__class__" = some (some (.builtin "object.__class__"))) &&
  (decide (PySem.W.mroIn K C (.type "object") = some true) &&
  decide (PySem.W.findIn K (.ref C) "__init__" = some (some (.ref fI))))))))))))
theorem ecB_ok {K : PySem.W.Frag} {fI C : Addr} (h : ecB K fI C = true) (c : ∃ nm q N bs bm sn sub ab col dd k0 k1 k2 k3 k5, K.lookup C = some (excClassObj nm q C N bs bm true sn sub ab col dd k0 k1 k2 k3 k5 "ValueError.__new__") ∧ PySem.HandSPX.refsVE bm = true) :
    EC K C ∧ PySem.W.findIn K (.ref C) "__init__" = some (some (.ref fI)) := by
  unfold ecB at h
  simp only [Bool.and_eq_true, decide_eq_true_eq] at h
  obtain ⟨h1, h2, h3, h4, h5, h6, h7, h8, h9, h10, h11⟩ := h
  exact ⟨⟨⟨c, h1, h2, h3, h4⟩, h5, h6, h7, h8, h9, h10⟩, h11⟩
/-- which classes are which -/
def kindsB (K : PySem.W.Frag) (cs : List Addr) (b : Addr) : Bool :=
  ((List.range cs.length).all fun j => (List.range cs.length).all fun i => decide (PySem.W.kitOne K (.ref (cs.getD j 0)) (.ref (cs.getD i 0)) = some (decide (j = i)))) &&
  (cs.all (fun c => decide (PySem.W.kitOne K (.ref b) (.ref c) = some false) && (decide (PySem.W.kitOne K (.ref c) (.ref b) = some true) && decide (PySem.W.kitOne K (.ref c) (.type "ValueError") = some true))) &&
  decide (PySem.W.kitOne K (.ref b) (.type "ValueError") = some true))
structure Kinds (K : PySem.W.Frag) (cs : List Addr) (b : Addr) : Prop where
  two : ∀ j i, j < cs.length → i < cs.length → PySem.W.kitOne K (.ref (cs.getD j 0)) (.ref (cs.getD i 0)) = some (decide (j = i))
  low : ∀ c ∈ cs, PySem.W.kitOne K (.ref b) (.ref c) = some false
  up : ∀ c ∈ cs, PySem.W.kitOne K (.ref c) (.ref b) = some true
  ve : ∀ c ∈ cs, PySem.W.kitOne K (.ref c) (.type "ValueError") = some true
  bve : PySem.W.kitOne K (.ref b) (.type "ValueError") = some true
theorem kindsB_ok {K : PySem.W.Frag} {cs : List Addr} {b : Addr} (h : kindsB K cs b = true) : Kinds K cs b := by
  unfold kindsB at h
  simp only [Bool.and_eq_true, List.all_eq_true, decide_eq_true_eq, List.mem_range] at h
  obtain ⟨h1, h2, h3⟩ := h
  exact ⟨fun j i hj hi => h1 j hj i hi, fun c hc => (h2 c hc).1, fun c hc => (h2 c hc).2.1, fun c hc => (h2 c hc).2.2, h3⟩
end G

namespace G
open PySem PySem.Spec PyProof.Rows L2

/-! ### operators of an own class whose instances have a dict -/
section
variable {prog : Program} {w : World} {A : Around} {E : Value → Shared → Prop} {s : Shared} {K : PySem.W.Frag} {x C L f f0 : Addr} {h₀ : Heap} {m : Str → Option Value} {ox : Obj} {od : Option Obj} {nm T : String}
theorem binR_K {op : Operator} {i : Int} {t : Tok} {id : String} {B : Builtin} {Q : Value → Shared → Prop} (F : Fr h₀ L s.heap m) (X₀ : K.In h₀) (I : PySem.W.InstAt s.heap x ox C od) (hc : PySem.W.selfFirst K C = true)
    (hs0 : PySem.W.findIn K (.ref C) (PySem.dunder op.info.2) = some (some (.ref f0)))
    (hs : PySem.W.findIn K (.ref C) (dunderR op.info.2) = some (some (.ref f))) (hf : PySem.W.isFn K (.ref f) = true) (hsub : PySem.W.subIn K (.ref C) (.type "int") = some false)
    (hfill : fillsNumberSlot (.type "int") op.info.2 = pure true) (slot : Slot "int" (dunder op.info.2) id) (entry : entryFor table id = some B) (args : argsOk id ⟨[.int i t, .ref x], []⟩)
    (decl : ∀ (R : Result → Shared → Prop), R (.ok (.ret .notImplemented)) s → wpAny (model prog w) A.in1 (B ⟨[.int i t, .ref x], []⟩) (GQ.FinOf prog w A R) (fun e s' => R (.error e) s') s)
    (h : wpAny (model prog w) A (call (.ref f) [.ref x, .int i t]) (PySem.W.CmpBack Q) E s) : wpAny (model prog w) A (binaryOp op (.int i t) (.ref x)) Q E s := by
  have X := X₀.keeps F.keep
  obtain ⟨cd, rest, hcd, hm⟩ := PySem.W.ksp_first hc
  rcases hi : op.info with ⟨sym, nm'⟩
  rw [hi] at hs hs0 hfill slot
  dsimp only at hs hs0 hfill slot
  have one := PySem.W.ksp_try X I hs hf h
  have L2 : PySem.W.Looks (model prog w) s.heap (typeOf (.ref x)) (.ref C) := I.type
  have L3 : PySem.W.Looks (model prog w) s.heap (fillsNumberSlot (.ref C) nm') true := PySem.W.fills_K X hcd hm hs0
  have L5 : PySem.W.Looks (model prog w) s.heap (isSubtype (.ref C) (.type "int")) false := PySem.W.looks_subIn X hsub
  have hne : (Value.type "int" == Value.ref C) = false := Bool.eq_false_iff.mpr fun q => by cases beq_iff_eq.mp q
  have hT := typeIs_int s i t
  simp only [binaryOp, hi]
  refine wpAny_holding (wpAny_bind ?_)
  unfold binaryOp1
  refine wpAny_bind (wpAny_typeOf hT (wpAny_bind (L2.here (wpAny_bind (wpAny_of_eq hfill ?_)))))
  simp only [hne, Bool.false_eq_true, if_false]
  refine wpAny_bind (L3.here ?_)
  simp only [Bool.and_self, if_true]
  refine wpAny_bind (L5.here ?_)
  have hpy : numberSlotInPython (.type "int") nm' = pure false := rfl
  simp only [Bool.false_eq_true, if_false, pure_bind, Bool.not_false, Bool.and_self, if_true, hpy]
  refine wpAny_bind (wpAny_tryMethod_declines hT slot (GQ.call_here slot hT entry args (decl _ ⟨rfl, ?_⟩)))
  refine wpAny_bind (wpAny_mono one (fun r s' hr' => ?_) fun _ _ e => e)
  obtain ⟨v, rfl, hq⟩ := hr'
  exact wpAny_bind (wpAny_rule (wpAny_pure (wpAny_pure hq)))

theorem cmpR_K {op : CmpOp} {i : Int} {t : Tok} {id : String} {B : Builtin} {Q : Value → Shared → Prop} (hu : A.units < cLine) (F : Fr h₀ L s.heap m) (X₀ : K.In h₀) (I : PySem.W.InstAt s.heap x ox C od)
    (hs : PySem.W.findIn K (.ref C) (cmpInfo op).2.2 = some (some (.ref f))) (hf : PySem.W.isFn K (.ref f) = true) (hsub : PySem.W.subIn K (.ref C) (.type "int") = some false)
    (slot : Slot "int" (cmpInfo op).2.1 id) (entry : entryFor table id = some B) (args : argsOk id ⟨[.int i t, .ref x], []⟩)
    (decl : ∀ (R : Result → Shared → Prop), R (.ok (.ret .notImplemented)) s → wpAny (model prog w) A.in1 (B ⟨[.int i t, .ref x], []⟩) (GQ.FinOf prog w A R) (fun e s' => R (.error e) s') s)
    (h : wpAny (model prog w) A (call (.ref f) [.ref x, .int i t]) (PySem.W.CmpBack Q) E s) : wpAny (model prog w) A (richCompare op (.int i t) (.ref x)) Q E s := by
  have X := X₀.keeps F.keep
  have hT := typeIs_int s i t
  have one : wpAny (model prog w) A (tryCompare (.ref x) (cmpInfo op).2.2 (.int i t)) (fun r s' => ∃ v, r = some v ∧ Q v s') E s := by
    unfold tryCompare
    refine wpAny_bind (PySem.W.ifBound_K X I hs hf (wpAny_mono h (fun v s' hv => ?_) fun _ _ e => e))
    cases v <;> first | exact hv.elim | exact wpAny_pure ⟨_, rfl, hv⟩
  have hne : (Value.type "int" != Value.ref C) = true := by
    have h0 : (Value.type "int" == Value.ref C) = false := Bool.eq_false_iff.mpr fun q => by cases beq_iff_eq.mp q
    unfold bne
    rw [h0]
    rfl
  unfold richCompare
  simp only [hT.oneThing_none]
  refine wpAny_holding (wpAny_bind (wpAny_cRoomFor hu ?_))
  refine wpAny_bind (wpAny_typeOf hT (wpAny_bind (I.type.here ?_)))
  simp only [hne, if_true]
  refine wpAny_bind ((PySem.W.looks_subIn X hsub).here ?_)
  simp only [Bool.false_eq_true, if_false, Bool.not_false, if_true]
  refine wpAny_bind (wpAny_tryCompare_declines hT slot (GQ.call_here slot hT entry args (decl _ ⟨rfl, ?_⟩)))
  refine wpAny_bind (wpAny_mono one (fun r s' z => ?_) fun _ _ e => e)
  obtain ⟨v, rfl, hq⟩ := z
  exact wpAny_pure hq
/-- what a builtin of int says to an instance -/
def Decl (B : Builtin) : Prop := ∀ (prog : Program) (w : World) (A : Around) (R : Result → Shared → Prop) (s : Shared) (i : Int) (t : Tok) (x C dx : Addr), s.heap.get? x = some (PySem.W.instObj C dx) → R (.ok (.ret .notImplemented)) s →
  wpAny (model prog w) A.in1 (B ⟨[.int i t, .ref x], []⟩) (GQ.FinOf prog w A R) (fun e s' => R (.error e) s') s
theorem decl_add : Decl Builtin.«int.__add__» := fun prog w A R s i t x C dx hl h => by
  obtain ⟨hp, g, d, tk, os⟩ := s
  wp_walk using AutoSeq1.wpAny_loadPart' hl, wpAny_load' hl
  exact h
theorem decl_sub : Decl Builtin.«int.__sub__» := fun prog w A R s i t x C dx hl h => by
  obtain ⟨hp, g, d, tk, os⟩ := s
  wp_walk using AutoSeq1.wpAny_loadPart' hl, wpAny_load' hl
  exact h
theorem decl_mul : Decl Builtin.«int.__mul__» := fun prog w A R s i t x C dx hl h => by
  obtain ⟨hp, g, d, tk, os⟩ := s
  wp_walk using AutoSeq1.wpAny_loadPart' hl, wpAny_load' hl
  exact h
theorem decl_lt : Decl Builtin.«int.__lt__» := fun prog w A R s i t x C dx hl h => by
  obtain ⟨hp, g, d, tk, os⟩ := s
  wp_walk using AutoSeq1.wpAny_loadPart' hl, wpAny_load' hl
  exact h
theorem decl_le : Decl Builtin.«int.__le__» := fun prog w A R s i t x C dx hl h => by
  obtain ⟨hp, g, d, tk, os⟩ := s
  wp_walk using AutoSeq1.wpAny_loadPart' hl, wpAny_load' hl
  exact h
theorem decl_gt : Decl Builtin.«int.__gt__» := fun prog w A R s i t x C dx hl h => by
  obtain ⟨hp, g, d, tk, os⟩ := s
  wp_walk using AutoSeq1.wpAny_loadPart' hl, wpAny_load' hl
  exact h
theorem decl_ge : Decl Builtin.«int.__ge__» := fun prog w A R s i t x C dx hl h => by
  obtain ⟨hp, g, d, tk, os⟩ := s
  wp_walk using AutoSeq1.wpAny_loadPart' hl, wpAny_load' hl
  exact h
end

section
variable {X : Cx} {CX : CXT} {pins : List (Addr × Obj)} {σ : L2.St} {H : Hp} {s : Shared} {a C dx p g f f0 : Addr} {fs : List (Str × V)} {n : Nat} {sp : Sp} {E : XK}
theorem ins_inst (I : Inv X pins σ H s) (h : H a = some (.ins C dx fs)) : ∃ (od : Obj) (mA : Str → Option Value), PySem.W.InstAt s.heap a (PySem.W.instObj C dx) C (some od) ∧ (∀ name, PySem.W.lookIn name od = some (mA name)) ∧ ∀ f, RelO (fs.lookup f) (mA f) := by
  obtain ⟨mA, J, r, _⟩ := ins_get I.hok h
  obtain ⟨od, J2, l⟩ := J.look
  exact ⟨od, mA, J2, l, r⟩
/-- a def of no defaults, by position -/
theorem fnR {fd : FuncData} {ps : List Str} (F : FnOk X.prog X.w X.K X.mg X.base CX n g fd ps sp) (b : Binds X.K fd ps []) : FnR X.prog X.w X.K X.mg X.base CX n g sp :=
  (FnOk.raw F b .nil).imp fun vs H Q E h => by rw [List.append_nil]; exact h
/-- x op y: both instances; y an int -/
def rBinK (C : Addr) (sp : Sp) (E : XK) : R2 := fun x y H Q => ∃ a b dx dy fs gs, x = .ref a ∧ y = .ref b ∧ H a = some (.ins C dx fs) ∧ H b = some (.ins C dy gs) ∧ sp [x, y] H Q E
def rBinT (C : Addr) (sp : Sp) (E : XK) : R2 := fun x y H Q => ∃ a dx fs i, x = .ref a ∧ y = .int i ∧ H a = some (.ins C dx fs) ∧ sp [x, y] H Q E
def rBinR (C : Addr) (sp : Sp) (E : XK) : R2 := fun x y H Q => ∃ a dx fs i, x = .int i ∧ y = .ref a ∧ H a = some (.ins C dx fs) ∧ sp [y, x] H Q E
/-- what the text says of the class's defs for op: __op__ at f, __rop__ at g -/
structure OpC (K : PySem.W.Frag) (C f g : Addr) (nm : String) : Prop where
  first : PySem.W.selfFirst K C = true
  at_ : PySem.W.findIn K (.ref C) (PySem.dunder nm) = some (some (.ref f))
  fn : PySem.W.isFn K (.ref f) = true
  rat : PySem.W.findIn K (.ref C) (dunderR nm) = some (some (.ref g))
  rfn : PySem.W.isFn K (.ref g) = true
  i1 : ∃ fo, PySem.W.findIn K (.type "int") (PySem.dunder nm) = some fo
  i2 : ∃ ro, PySem.W.findIn K (.type "int") (dunderR nm) = some ro
  s1 : PySem.W.subIn K (.type "int") (.ref C) = some false
  s2 : PySem.W.subIn K (.ref C) (.type "int") = some false
def opcB (K : PySem.W.Frag) (C f g : Addr) (nm : String) : Bool :=
  PySem.W.selfFirst K C && decide (PySem.W.findIn K (.ref C) (PySem.dunder nm) = some (some (.ref f))) && PySem.W.isFn K (.ref f) && decide (PySem.W.findIn K (.ref C) (dunderR nm) = some (some (.ref g))) && PySem.W.isFn K (.ref g)
    && (PySem.W.findIn K (.type "int") (PySem.dunder nm)).isSome && (PySem.W.findIn K (.type "int") (dunderR nm)).isSome && decide (PySem.W.subIn K (.type "int") (.ref C) = some false) && decide (PySem.W.subIn K (.ref C) (.type "int") = some false)
theorem opcB_ok {K : PySem.W.Frag} {C f g : Addr} {nm : String} (h : opcB K C f g nm = true) : OpC K C f g nm := by
  unfold opcB at h
  simp only [Bool.and_eq_true, decide_eq_true_eq] at h
  obtain ⟨⟨⟨⟨⟨⟨⟨⟨h1, h2⟩, h3⟩, h4⟩, h5⟩, h6⟩, h7⟩, h8⟩, h9⟩ := h
  exact ⟨h1, h2, h3, h4, h5, Option.isSome_iff_exists.mp h6, Option.isSome_iff_exists.mp h7, h8, h9⟩
theorem op_binK {op : Operator} (O : OpC X.K C f g op.info.2) (F : FnR X.prog X.w X.K X.mg X.base CX n f sp) (hr : Room n X.A) (hx : Passes CX X E) : OpR X (binaryOp op) (rBinK C sp E) := by
  intro pins s σ H x y v u Q I rx ry h
  obtain ⟨a, b, dx, dy, fs, gs, rfl, rfl, ha, hb, q⟩ := h
  cases (show v = Value.ref a from rx)
  cases (show u = Value.ref b from ry)
  obtain ⟨od, mA, J, _⟩ := ins_inst I ha
  obtain ⟨od', mA', J', _⟩ := ins_inst I hb
  obtain ⟨m, hF⟩ := I.fr
  refine PySem.W.binop_K hF I.ok.mod.kin J J'.type O.first O.at_ O.fn ?_
  refine wpAny_mono (wpAny_call (run_fnR (us := [.ref a, .ref b]) (vs := [.ref a, .ref b]) F hr hx I (.cons rfl (.cons rfl .nil)) q)) (fun w s' z => ?_) fun _ _ x => x
  obtain ⟨z', H', I', rz, qz⟩ := z
  exact SlX.cmpback rz ⟨z', H', I', rz, qz⟩
theorem op_binT {op : Operator} (O : OpC X.K C f g op.info.2) (F : FnR X.prog X.w X.K X.mg X.base CX n f sp) (hr : Room n X.A) (hx : Passes CX X E) : OpR X (binaryOp op) (rBinT C sp E) := by
  intro pins s σ H x y v u Q I rx ry h
  obtain ⟨a, dx, fs, i, rfl, rfl, ha, q⟩ := h
  cases (show v = Value.ref a from rx)
  obtain ⟨t, e⟩ := (show ∃ t, u = Value.int i t from ry)
  cases e
  obtain ⟨od, mA, J, _⟩ := ins_inst I ha
  obtain ⟨m, hF⟩ := I.fr
  obtain ⟨fo, h1⟩ := O.i1
  obtain ⟨ro, h2⟩ := O.i2
  refine PySem.W.ksp_binT hF I.ok.mod.kin J rfl O.first O.at_ O.fn O.rat (.inr ⟨g, rfl⟩) h1 h2 O.s1 ?_
  refine wpAny_mono (wpAny_call (run_fnR (us := [.ref a, .int i t]) (vs := [.ref a, .int i]) F hr hx I (.cons rfl (.cons ⟨t, rfl⟩ .nil)) q)) (fun w s' z => ?_) fun _ _ x => x
  obtain ⟨z', H', I', rz, qz⟩ := z
  exact SlX.cmpback rz ⟨z', H', I', rz, qz⟩
/-- the builtin of int for op -/
structure IntOp (nm : String) (id : String) (B : Builtin) : Prop where
  fill : fillsNumberSlot (.type "int") nm = pure true
  slot : Slot "int" (dunder nm) id
  entry : entryFor table id = some B
  args : ∀ a b, argsOk id ⟨[a, b], []⟩
  decl : Decl B
theorem io_add : IntOp "add" "int.__add__" Builtin.«int.__add__» := ⟨F.fills_int_add, F.slot_int_add, F.entry_int_add, F.args_int_add_2, decl_add⟩
theorem io_sub : IntOp "sub" "int.__sub__" Builtin.«int.__sub__» := ⟨F.fills_int_sub, F.slot_int_sub, F.entry_int_sub, F.args_int_sub_2, decl_sub⟩
theorem io_mul : IntOp "mul" "int.__mul__" Builtin.«int.__mul__» := ⟨F.fills_int_mul, F.slot_int_mul, F.entry_int_mul, F.args_int_mul_2, decl_mul⟩
theorem op_binR {op : Operator} {id : String} {B : Builtin} (O : OpC X.K C f g op.info.2) (T : IntOp op.info.2 id B) (F : FnR X.prog X.w X.K X.mg X.base CX n g sp) (hr : Room n X.A) (hx : Passes CX X E) : OpR X (binaryOp op) (rBinR C sp E) := by
  intro pins s σ H x y v u Q I rx ry h
  obtain ⟨a, dx, fs, i, rfl, rfl, ha, q⟩ := h
  cases (show u = Value.ref a from ry)
  obtain ⟨t, e⟩ := (show ∃ t, v = Value.int i t from rx)
  cases e
  obtain ⟨od, mA, J, _⟩ := ins_inst I ha
  obtain ⟨m, hF⟩ := I.fr
  refine binR_K hF I.ok.mod.kin J O.first O.at_ O.rat O.rfn O.s2 T.fill T.slot T.entry (T.args _ _) (fun R => T.decl _ _ _ R _ _ _ _ _ _ J.at_) ?_
  refine wpAny_mono (wpAny_call (run_fnR (us := [.ref a, .int i t]) (vs := [.ref a, .int i]) F hr hx I (.cons rfl (.cons ⟨t, rfl⟩ .nil)) q)) (fun w s' z => ?_) fun _ _ x => x
  obtain ⟨z', H', I', rz, qz⟩ := z
  exact SlX.cmpback rz ⟨z', H', I', rz, qz⟩
/-- comparisons: the class's def at f, the one for the other side at g -/
structure CmpC (K : PySem.W.Frag) (C f g : Addr) (op : CmpOp) : Prop where
  at_ : PySem.W.findIn K (.ref C) (cmpInfo op).2.1 = some (some (.ref f))
  fn : PySem.W.isFn K (.ref f) = true
  rat : PySem.W.findIn K (.ref C) (cmpInfo op).2.2 = some (some (.ref g))
  rfn : PySem.W.isFn K (.ref g) = true
  nf : PySem.W.notFirst K C (.ref C) = true
  nfi : PySem.W.notFirst K C (.type "int") = true
  s2 : PySem.W.subIn K (.ref C) (.type "int") = some false
def cmpcB (K : PySem.W.Frag) (C f g : Addr) (op : CmpOp) : Bool :=
  decide (PySem.W.findIn K (.ref C) (cmpInfo op).2.1 = some (some (.ref f))) && PySem.W.isFn K (.ref f) && decide (PySem.W.findIn K (.ref C) (cmpInfo op).2.2 = some (some (.ref g))) && PySem.W.isFn K (.ref g)
    && PySem.W.notFirst K C (.ref C) && PySem.W.notFirst K C (.type "int") && decide (PySem.W.subIn K (.ref C) (.type "int") = some false)
theorem cmpcB_ok {K : PySem.W.Frag} {C f g : Addr} {op : CmpOp} (h : cmpcB K C f g op = true) : CmpC K C f g op := by
  unfold cmpcB at h
  simp only [Bool.and_eq_true, decide_eq_true_eq] at h
  obtain ⟨⟨⟨⟨⟨⟨h1, h2⟩, h3⟩, h4⟩, h5⟩, h6⟩, h7⟩ := h
  exact ⟨h1, h2, h3, h4, h5, h6, h7⟩
theorem op_cmpK {op : CmpOp} (hop : ∀ a b, compareOp op a b = richCompare op a b) (O : CmpC X.K C f g op) (F : FnR X.prog X.w X.K X.mg X.base CX n f sp) (hr : Room n X.A) (hx : Passes CX X E) : OpR X (compareOp op) (rBinK C sp E) := by
  intro pins s σ H x y v u Q I rx ry h
  obtain ⟨a, b, dx, dy, fs, gs, rfl, rfl, ha, hb, q⟩ := h
  cases (show v = Value.ref a from rx)
  cases (show u = Value.ref b from ry)
  obtain ⟨od, mA, J, _⟩ := ins_inst I ha
  obtain ⟨od', mA', J', _⟩ := ins_inst I hb
  obtain ⟨m, hF⟩ := I.fr
  rw [hop]
  refine PySem.W.cmp_K (op := op) (tb := .ref C) hr.units0 hF I.ok.mod.kin J J'.type O.nf O.at_ O.fn ?_
  refine wpAny_mono (wpAny_call (run_fnR (us := [.ref a, .ref b]) (vs := [.ref a, .ref b]) F hr hx I (.cons rfl (.cons rfl .nil)) q)) (fun w s' z => ?_) fun _ _ x => x
  obtain ⟨z', H', I', rz, qz⟩ := z
  exact SlX.cmpback rz ⟨z', H', I', rz, qz⟩
theorem op_cmpT {op : CmpOp} (hop : ∀ a b, compareOp op a b = richCompare op a b) (O : CmpC X.K C f g op) (F : FnR X.prog X.w X.K X.mg X.base CX n f sp) (hr : Room n X.A) (hx : Passes CX X E) : OpR X (compareOp op) (rBinT C sp E) := by
  intro pins s σ H x y v u Q I rx ry h
  obtain ⟨a, dx, fs, i, rfl, rfl, ha, q⟩ := h
  cases (show v = Value.ref a from rx)
  obtain ⟨t, e⟩ := (show ∃ t, u = Value.int i t from ry)
  cases e
  obtain ⟨od, mA, J, _⟩ := ins_inst I ha
  obtain ⟨m, hF⟩ := I.fr
  rw [hop]
  refine PySem.W.cmp_K (op := op) (tb := .type "int") hr.units0 hF I.ok.mod.kin J (PySem.W.Looks.of_pure rfl) O.nfi O.at_ O.fn ?_
  refine wpAny_mono (wpAny_call (run_fnR (us := [.ref a, .int i t]) (vs := [.ref a, .int i]) F hr hx I (.cons rfl (.cons ⟨t, rfl⟩ .nil)) q)) (fun w s' z => ?_) fun _ _ x => x
  obtain ⟨z', H', I', rz, qz⟩ := z
  exact SlX.cmpback rz ⟨z', H', I', rz, qz⟩
structure IntCmp (op : CmpOp) (id : String) (B : Builtin) : Prop where
  slot : Slot "int" (cmpInfo op).2.1 id
  entry : entryFor table id = some B
  args : ∀ a b, argsOk id ⟨[a, b], []⟩
  decl : Decl B
theorem ic_lt : IntCmp .Lt "int.__lt__" Builtin.«int.__lt__» := ⟨F.slot_int_lt, F.entry_int_lt, F.args_int_lt_2, decl_lt⟩
theorem ic_le : IntCmp .LtE "int.__le__" Builtin.«int.__le__» := ⟨F.slot_int_le, F.entry_int_le, F.args_int_le_2, decl_le⟩
theorem ic_gt : IntCmp .Gt "int.__gt__" Builtin.«int.__gt__» := ⟨F.slot_int_gt, F.entry_int_gt, F.args_int_gt_2, decl_gt⟩
theorem ic_ge : IntCmp .GtE "int.__ge__" Builtin.«int.__ge__» := ⟨F.slot_int_ge, F.entry_int_ge, F.args_int_ge_2, decl_ge⟩
theorem op_cmpR {op : CmpOp} {id : String} {B : Builtin} (hop : ∀ a b, compareOp op a b = richCompare op a b) (O : CmpC X.K C f g op) (T : IntCmp op id B) (F : FnR X.prog X.w X.K X.mg X.base CX n g sp) (hr : Room n X.A) (hx : Passes CX X E) : OpR X (compareOp op) (rBinR C sp E) := by
  intro pins s σ H x y v u Q I rx ry h
  obtain ⟨a, dx, fs, i, rfl, rfl, ha, q⟩ := h
  cases (show u = Value.ref a from ry)
  obtain ⟨t, e⟩ := (show ∃ t, v = Value.int i t from rx)
  cases e
  obtain ⟨od, mA, J, _⟩ := ins_inst I ha
  obtain ⟨m, hF⟩ := I.fr
  rw [hop]
  refine cmpR_K hr.units0 hF I.ok.mod.kin J O.rat O.rfn O.s2 T.slot T.entry (T.args _ _) (fun R => T.decl _ _ _ R _ _ _ _ _ _ J.at_) ?_
  refine wpAny_mono (wpAny_call (run_fnR (us := [.ref a, .int i t]) (vs := [.ref a, .int i]) F hr hx I (.cons rfl (.cons ⟨t, rfl⟩ .nil)) q)) (fun w s' z => ?_) fun _ _ x => x
  obtain ⟨z', H', I', rz, qz⟩ := z
  exact SlX.cmpback rz ⟨z', H', I', rz, qz⟩
/-- -x of an instance -/
def rUnK (C : Addr) (sp : Sp) (E : XK) : V → Hp → VK → Prop := fun x H Q => ∃ a dx fs, x = .ref a ∧ H a = some (.ins C dx fs) ∧ sp [x] H Q E
theorem un_negK (hs : PySem.W.findIn X.K (.ref C) "__neg__" = some (some (.ref f))) (hf : PySem.W.isFn X.K (.ref f) = true) (F : FnR X.prog X.w X.K X.mg X.base CX n f sp) (hr : Room n X.A) (hx : Passes CX X E) : UnR X (unaryOp .USub) (rUnK C sp E) := by
  intro pins s σ H x v Q I rx h
  obtain ⟨a, dx, fs, rfl, ha, q⟩ := h
  cases (show v = Value.ref a from rx)
  obtain ⟨od, mA, J, _⟩ := ins_inst I ha
  obtain ⟨m, hF⟩ := I.fr
  exact PySem.W.ksp_neg hF I.ok.mod.kin J hs hf (wpAny_call (run_fnR (us := [.ref a]) (vs := [.ref a]) F hr hx I (.cons rfl .nil) q))
end
end G

namespace G
open PySem PySem.Spec PyProof.Rows L2

/-! ### an error that is caught and kept -/
/-- an error of the class at C that was raised once -/
def exc (a C : Addr) (d : Option Addr) : HO := .ext fun h => ∃ (oe : Obj) (vs : Array Value), h.get? a = some oe ∧ Zc (.ref C) d oe ∧ oe.data = .fields vs
theorem exc_ok {P : Program} {w : World} {H : Hp} {h : Heap} {a C : Addr} {d : Option Addr} {oe : Obj} {vs : Array Value} (e : h.get? a = some oe) (z : Zc (.ref C) d oe) (dt : oe.data = .fields vs) : ObjOk P w H h a (exc a C d) :=
  ⟨⟨oe, vs, e, z, dt⟩, ⟨oe, e⟩, fun h1 h2 ⟨o, v, x, y, u⟩ k => ⟨o, v, k _ x, y, u⟩⟩
/-- the caught error, with what it keeps -/
def Caught (H : Hp) (a C : Addr) (v : V) : Prop := ∃ d, H a = some (exc a C (some d)) ∧ H d = some (.xd [("value", v)])
theorem Caught.same {H H' : Hp} (S : Same H H') {a C : Addr} {v : V} (e : Caught H a C v) : Caught H' a C v := let ⟨d, h1, h2⟩ := e; ⟨d, S _ _ h1, S _ _ h2⟩

section
variable {X : Cx} {pins : List (Addr × Obj)} {σ : L2.St} {H : Hp} {s : Shared} {a C : Addr}
/-- an object that is there, new since the entry, is tracked from now on -/
theorem adopt {o : HO} (I : Inv X pins σ H s) (hx : X.ex = []) (na : H a = none) (n0 : X.s_0.heap.get? a = none) (nL : a ≠ X.env.locals) (nc : ∀ x c, X.env.cells.lookup x = some c → c ≠ a) (np : ∀ p ∈ X.pn ++ pins, p.1 ≠ a)
    (new : ObjOk X.prog X.w (upd H a o) s.heap a o) : Inv X pins σ (upd H a o) s := by
  have old : ∀ {b : Addr} {u : HO}, H b = some u → upd H a o b = some u := fun {b u} e => by
    rw [upd_ne (fun z => by rw [z, na] at e; cases e)]
    exact e
  refine ⟨I.ok, I.os, I.bare, ⟨I.base.keep, I.base.slot, fun b ob e n hb => ?_, I.base.there, fun b xs e => old (I.base.tups b xs e), fun b ob u e => old (I.base.frzs b ob u e), fun b ps e => ?_⟩, I.loc, I.cell, ?_, fun x c e => ?_, fun p hp => ?_,
    I.hok.laidN (fun _ _ z => z) na new, I.len⟩
  · rw [upd_ne (fun z => by rw [z, n0] at e; cases e)]
    exact I.base.free b ob e n hb
  · obtain ⟨m, z⟩ := I.base.tbls b ps e
    exact ⟨m, old z⟩
  · rw [upd_ne (Ne.symm nL)]
    exact I.free
  · rw [upd_ne (nc x c e)]
    exact I.freeC x c e
  · obtain ⟨p1, p2, p3⟩ := I.pin p hp
    exact ⟨p1, by rw [upd_ne (np p hp)]; exact p2, p3⟩
end

/-- what 'except x as n' wishes, where the error is kept by the suite -/
def wAsT (K : PySem.W.Frag) (c : Value) (i : Nat) (ts : Addr → Value → Option Addr → TS) (D : Ends) : WX := fun cls d σ H =>
  PySem.W.exmOne K cls c = some true ∧ ∃ C, cls = .ref C ∧ ∀ a, H a = none → ts a cls d { nx := fun σ' H' => D.nx (σ'.set i none) (upd H' a (exc a C d)), rt := fun _ _ => False, bk := fun _ _ => False, ct := fun _ _ => False } (σ.set i (some (.ref a))) H
section
variable {X : Cx} {x n : Str} {c : Value} {i : Nat} {body suite : List Stmt} {b₀ : Stmt} {np pos pos' : Pos} {tb : WX → TS} {ts : Addr → Value → Option Addr → TS} {Wout : WX}
theorem ps_try_asT (hx : X.ex = []) (hs : X.stack = X.env :: X.outer) (hf : X.env.frame = some X.env.locals) (hN : X.N.Nodup) (hi : X.N[i]? = some n) (hln : X.env.kindOf n = some .local) (hc : Names X x c)
    (hb : ∀ (W : WX) (pn : List (Addr × Obj)) (xe : Value → Shared → Prop), Takes (X.tr pn xe) W → PassesOwn (model X.prog X.w) X.A X.env xe → PSs (X.tr pn xe) body (tb W))
    (hsu : ∀ (a : Addr) (oe : Obj) (cls : Value) (d : Option Addr) (pn : List (Addr × Obj)), Zc cls d oe → (∃ vs, oe.data = .fields vs) → PSs (X.suite a ((a, oe) :: pn)) (b₀ :: suite) (ts a cls d)) :
    PS X (.Try body [.ExceptHandler (some (.Name x np)) (some n) (b₀ :: suite) pos'] [] [] pos) (fun D σ H => tb (wAsT X.K c i ts D) D σ H) := by
  refine ⟨fun pins s σ H D I h => ?_⟩
  have ok := I.ok
  have hfr : X.A.frames = some (X.env :: X.outer) := by rw [ok.frames, hs]
  have hloc : Loc X.env.scope n := .inl hln
  refine wpAny_Try_except ?_
  refine wpAny_mono ((hb (wAsT X.K c i ts D) (X.pn ++ pins) (fun e s₁ => wpAny (model X.prog X.w) X.A (noteFrame e X.env) (fun _ s₂ => wpAny (model X.prog X.w) X.A (setFlight e none) (fun _ s₃ =>
    wpAny (model X.prog X.w) X.A (handleBy e X.env [.ExceptHandler (some (.Name x np)) (some n) (b₀ :: suite) pos']) (SP X pins D) X.xe s₃) X.xe s₂) X.xe s₁) (fun u s' xx => ?_) PassesOwn.looking).run [] s σ H D (I.toTry _) h) (fun f s1 hsp => ?_) (fun e s1 he => he)
  · -- the catch
    obtain ⟨a, B, sI, pins', σ', H', cls, d, rfl, J', nb, up, sky, na, os, ag, hb1, C, rfl, hyes⟩ := xx
    have J : Inv X pins σ' H' sI := J'.ofTry ok
    have sky' : Sky B (X.env :: X.outer) a (Zc (.ref C) d) X.env.locals s'.heap := by rw [← hs]; exact sky
    show wpAny (model X.prog X.w) X.A (noteFrame (.ref a) X.env) _ _ _
    refine Sky.land Zc.steady hfr hf sky' fun h3 fl3 up3 => ?_
    have J3 : Inv X pins σ' H' { s' with heap := h3 } := J.landed nb fl3.1 (up.trans up3) os ag
    obtain ⟨oe3, vs3, he3, hz3, hd3⟩ := fl3.there
    have notFr : ∀ {h : Heap} {o : Obj} {vs : Array Value}, h.FunFrames B (X.env :: X.outer) → h.get? a = some o → o.data = .fields vs → a ∉ frs (X.env :: X.outer) := fun {h o vs} ff e dd hm => by
      obtain ⟨_, o', e', hnf⟩ := ff.mem hm
      rw [e] at e'; cases e'
      exact hnf _ dd
    have nfr := notFr fl3.2.2.1 he3 hd3
    have nL : a ≠ X.env.locals := fun z => nfr (List.mem_filterMap.mpr ⟨X.env, List.mem_cons_self, by rw [hf, z]⟩)
    have nF : a ∉ X.fs := fun hm => by
      obtain ⟨e, he, q⟩ := List.mem_filterMap.mp hm
      exact nfr (List.mem_filterMap.mpr ⟨e, List.mem_cons_of_mem _ he, q⟩)
    have nI : sI.heap.get? a = none := by
      cases e : sI.heap.get? a with
      | none => rfl
      | some o =>
        have z := nb a o e (by rw [hs]; exact nfr)
        rw [fl3.2.1] at z
        cases z
    have n0 : X.s_0.heap.get? a = none := by
      cases e : X.s_0.heap.get? a with
      | none => rfl
      | some o =>
        obtain ⟨o', z⟩ := J.base.there a o e (by rw [hx]; exact fun z => nomatch z)
        rw [nI] at z
        cases z
    have S3 := J3.suite he3 hd3 na nL nF
    refine wpAny_handleBy_cons (codeAny_handlers_test ?_) (by intro q; cases q)
    have LT : PySem.W.Looks (model X.prog X.w) h3 (typeOf (.ref a)) (.ref C) := fun A Q E s k q => wpAny_typeOf_ref (k _ _ he3) (by rw [hz3.1]; exact q)
    have LM := PySem.W.exm_one (M := model X.prog X.w) (J3.kIn) LT hb1
    have test : ∀ {Q : Value → Shared → Prop} {E : Value → Shared → Prop}, Q c { s' with heap := h3 } → wpAny (model X.prog X.w) (X.A.mark (some (.ref a))) (eval (.Name x np) X.env) Q E { s' with heap := h3 } := fun {Q E} q => by
      obtain ⟨hg, hdbg, hm | ⟨hm, hv, hnn⟩⟩ := hc
      · exact ld_glob (X := X.suite a ((a, oe3) :: (X.pn ++ pins))) S3 hg hm q hdbg
      · exact ld_blt (X := X.suite a ((a, oe3) :: (X.pn ++ pins))) S3 hg hm hv q hnn hdbg
    refine test (LM.here ?_)
    refine codeAny_handlers_suite_as ?_
    refine HandSPX.lands_againZ fl3 fun h4 fl4 up4 => ?_
    have J4 : Inv X pins σ' H' { s' with heap := h4 } := J.landed nb fl4.1 ((up.trans up3).trans up4) os ag
    obtain ⟨oe4, vs4, he4, hz4, hd4⟩ := fl4.there
    have S4 := J4.suite he4 hd4 na nL nF
    refine store_ok (X := X.suite a ((a, oe4) :: (X.pn ++ pins))) (v := .ref a) S4 hN hi hloc rfl (fun s5 S5 => ?_) (.inr hln)
    refine wpAny_mono ((hsu a oe4 (.ref C) d (X.pn ++ pins) hz4 ⟨_, hd4⟩).run [] s5 _ H' _ S5 (hyes a na)) (fun f s6 hsp => ?_) (fun _ _ z => False.elim z)
    cases f with
    | next =>
      obtain ⟨σ6, H6, S6, q6⟩ := hsp
      have P6 : Inv X ((a, oe4) :: pins) σ6 H6 s6 := ⟨ok, S6.os, S6.bare, S6.base, S6.loc, S6.cell, S6.free, S6.freeC, fun p hp => S6.pin p (by
        have hp' : p ∈ (a, oe4) :: (X.pn ++ pins) := by
          rcases List.mem_append.mp hp with z | z
          · exact List.mem_cons_of_mem _ (List.mem_append_left _ z)
          · rcases List.mem_cons.mp z with z | z
            · rw [z]; exact List.mem_cons_self
            · exact List.mem_cons_of_mem _ (List.mem_append_right _ z)
        exact List.mem_append_left _ hp'), S6.hok, S6.len⟩
      refine gone_ok P6 hN hi hln fun s7 J7 => ?_
      obtain ⟨e7, na7, nL7, nF7, nc7⟩ := J7.pin (a, oe4) (List.mem_append_right _ List.mem_cons_self)
      have K7 : Inv X pins (σ6.set i none) H6 s7 := ⟨ok, J7.os, J7.bare, J7.base, J7.loc, J7.cell, J7.free, J7.freeC, fun p hp => J7.pin p (by
        rcases List.mem_append.mp hp with z | z
        · exact List.mem_append_left _ z
        · exact List.mem_append_right _ (List.mem_cons_of_mem _ z)), J7.hok, J7.len⟩
      refine ⟨_, _, adopt K7 hx na7 n0 nL (fun y cc e z => ?_) (fun p hp z => ?_) (exc_ok e7 hz4 hd4), q6⟩
      · obtain ⟨v, o, ho, hd⟩ := J7.cell y cc e
        rw [z, e7] at ho
        cases ho
        exact nc7 _ hd
      · have w := (J.pin p hp).1
        rw [z, nI] at w
        cases w
    | brk =>
      obtain ⟨σ6, H6, S6, q6⟩ := hsp
      exact q6.elim
    | cont =>
      obtain ⟨σ6, H6, S6, q6⟩ := hsp
      exact q6.elim
    | ret u =>
      obtain ⟨v6, σ6, H6, S6, r6, q6⟩ := hsp
      exact q6.elim
  · cases f with
    | next =>
      obtain ⟨σ', H', J', q⟩ := hsp
      exact wpAny_execs_nil ⟨σ', H', J'.ofTry ok, q⟩
    | brk =>
      obtain ⟨σ', H', J', q⟩ := hsp
      exact ⟨σ', H', J'.ofTry ok, q⟩
    | cont =>
      obtain ⟨σ', H', J', q⟩ := hsp
      exact ⟨σ', H', J'.ofTry ok, q⟩
    | ret u =>
      obtain ⟨v, σ', H', J', r, q⟩ := hsp
      exact ⟨v, σ', H', J'.ofTry ok, r, q⟩
end

/-! ### what is read of it -/
section
variable {X : Cx}
theorem caught_inst {pins : List (Addr × Obj)} {σ : L2.St} {H : Hp} {s : Shared} (I : Inv X pins σ H s) {a C : Addr} {v : V} (e : Caught H a C v) :
    ∃ (ox : Obj) (od : Obj) (mA : Str → Option Value) (dx : Addr), PySem.W.InstAt s.heap a ox C (some od) ∧ s.heap.Ns1 dx mA ∧ s.heap.get? dx = some od ∧ (∀ f, RelO (([("value", v)] : List (Str × V)).lookup f) (mA f)) := by
  obtain ⟨d, h1, h2⟩ := e
  obtain ⟨⟨oe, vs, ho, hz, dt⟩, _, _⟩ := (show ObjOk X.prog X.w H s.heap a (exc a C (some d)) from I.hok a _ h1)
  obtain ⟨mA, hn, hr⟩ := (show ObjOk X.prog X.w H s.heap d (.xd [("value", v)]) from I.hok d _ h2)
  obtain ⟨o, es, ep, hd, hz'⟩ := id hn
  refine ⟨oe, o, mA, d, ⟨ho, hz.1, ?_, ?_⟩, hn, hd, hr⟩
  · unfold PySem.W.notCls
    rw [dt]
  · rw [hz.2]
    exact hd
/-- e.value -/
theorem pe_valueC {e : Expr} {te : TE} {pos : Pos} (he : PE X e te) (hb : attributeBase e "value" X.env (eval e X.env) = eval e X.env := by rfl) :
    PE X (.Attribute e "value" pos) (fun σ H Q => te σ H fun x H1 => ∃ a C v, x = .ref a ∧ EC X.K C ∧ Caught H1 a C v ∧ Q v H1) := by
  constructor
  intro pins s σ H Q I h
  refine attr_of hb (thn (he.run pins s σ H _ I h) ?_)
  rintro u s1 ⟨x, H1, I1, rx, a, C, v, rfl, T, ea, q⟩
  cases rx
  obtain ⟨ox, od, mA, dx, J, hn, hd, hr⟩ := caught_inst I1 ea
  obtain ⟨od', hod, hl⟩ := lookIn_ns hn
  have eo : od' = od := Option.some.inj (hod.symm.trans hd)
  subst eo
  obtain ⟨u, hu, ru⟩ := RelO.some_of (v := v) (o := mA "value") (by have := hr "value"; simpa [List.lookup] using this)
  exact HandSPX.exc_get I1.kIn J T.ga T.gg T.ox.exC (PySem.W.findObj_own T.hd T.nv rfl (by rw [hl, hu])) (handed_of ru) ⟨v, H1, I1.tok _, ru, q⟩
/-- isinstance(e, C) of such an error, or of None -/
theorem call_isCaught (S : EK X.K) : CallR X (.builtin "isinstance") (fun xs H Q => ∃ (a C : Addr) (v c : V) (u : Value) (b : Bool), xs = [.ref a, c] ∧ ClsV c u ∧ EC X.K C ∧ Caught H a C v ∧ PySem.W.kitOne X.K (.ref C) u = some b ∧ Q (.bl b) H) := by
  intro pins s σ H xs us Q I r h
  obtain ⟨a, C, v, c, u, b, rfl, k, T, ea, e, q⟩ := h
  obtain ⟨u1, u2, rfl, r1, r2⟩ := vals2 r
  have e2 := k.eq r2
  subst e2
  cases r1
  obtain ⟨ox, od, mA, dx, J, hn, hd, hr⟩ := caught_inst I ea
  exact PySem.W.kia_one (PySem.W.kitx_exc (gt := none) T.cls T.ga T.gg T.ox.exC T.kl S.sp S.tk T.ob) I.kIn J e (fun z => nomatch z) fun tk => ⟨.bl b, H, I.tok tk, rfl, q⟩
end
end G

namespace G
open PySem PySem.Spec PyProof.Rows L2 LamX

/-! ### a lambda handed to a def that catches what it raises; the wish may look at the slots -/
section
variable {X : Cx} {pins : List (Addr × Obj)} {σ : L2.St} {H HZ : Hp} {s s1 : Shared}
/-- the lambda's own name and object -/
abbrev lamName (X : Cx) : Str := X.env.qual ++ "<lambda>"
abbrev lamObj (X : Cx) (params : Arguments) (body : Expr) (scope : Scope) (pm : Value) (c' : Addr) (ctv : Value) : Obj := PySem.W.kla_obj "<lambda>" (lamName X) params body scope (cloFrom X.env.cells scope.names []) pm c' ctv
theorem lam_runs {A : Around} {outer : List Env} {E : XK} {Q : VK} {f c' : Addr} {pm ctv : Value} {params : Arguments} {body : Expr} {scope : Scope} {k : Nat} {tb : TE}
    (I : Inv X pins σ H s) (L : LamS X.env.scope scope) (of : s1.heap.get? f = some (lamObj X params body scope pm c' ctv)) (un : Un (frs X.stack) [] H HZ s.heap s1.heap)
    (e0 : Env0 X.prog X.w X.K X.mg X.base A outer s1 HZ) (hr : Room (k + 1) A) (hc : HZ c' = some (CodeO c' (lamName X)))
    (nb : bindArgs (PySem.W.kla_fn "<lambda>" (lamName X) params body scope (cloFrom X.env.cells scope.names []) pm (.ref c') ctv) ⟨[], []⟩ = pure [])
    (bd : Room k (A.deeper (lamEnv X scope s1.heap.objs.size f c')) → PE (lamCx X A outer s1 HZ E scope f c') body tb) (ht : tb σ HZ Q) :
    codeAny (model X.prog X.w) A (.call (.ref f) ⟨[], []⟩) (CR (L2.CX X.prog X.w) outer X.prog X.w HZ s1 Q E) s1 := by
  have lim : s1.heap.NoLimit := e0.mod.nolimit.keeps fun b o e => (e0.bs b o e).1
  obtain ⟨⟨oc, vs, t, g1, g2, g3⟩, _, _⟩ := (show ObjOk X.prog X.w HZ s1.heap c' (CodeO c' (lamName X)) from e0.hok c' _ hc)
  apply PySem.W.kla_callFunE hr.depth of rfl L.co L.gen rfl ⟨c', oc, vs, t, rfl, g1, g2, g3⟩
  rw [nb]
  apply wpAny_pure
  apply wpAny_newFunctionEnv (fun y hy => (L.own y hy).2) (fun y hy => absurd hy (by simp)) _ L.kind
  intro h₁ hns hsb
  refine ⟨lim.fresh _ hsb, ?_⟩
  have kp : ∀ b o, s1.heap.get? b = some o → h₁.get? b = some o := by
    intro b o e
    exact hsb.extBut b o (Nat.ne_of_lt (Heap.lt_size e)) (Heap.get?_push_of_some _ e)
  have J := lam_start2 (f := f) (c' := c') (tk := s1.toks + ([] : List (Str × Value)).length) (E := E) I L e0 hr.hd un hns kp
  apply PySem.W.kla_codeExpr
  apply wpAny_mono ((bd (hr.deeper _)).run [] _ _ HZ Q J ht)
  · rintro v s' ⟨w', H', J', rv, q⟩
    exact ⟨w', H', J'.os, J'.bare, J'.base, J'.hok, rv, q⟩
  · exact fun _ _ z => z
/-- a(), in the def that got it -/
theorem pe_ask {CXg : CXT} {Eg : XK} {Ng : List Str} {qg : Str} {sg : Scope} {g f c' : Addr} {cdg pm ctv : Value} {params : Arguments} {body : Expr} {scope : Scope} {k i : Nat} {a : Str} {pn : List (Addr × Obj)} {xe : Value → Shared → Prop} {W : WX} {tb : XK → TE} {p1 p2 : Pos}
    (I : Inv X pins σ H s) (L : LamS X.env.scope scope) (hf : s.heap.get? f = some (lamObj X params body scope pm c' ctv)) (hfn : H f = none) (hfr : f ∉ frs X.stack)
    (nb : bindArgs (PySem.W.kla_fn "<lambda>" (lamName X) params body scope (cloFrom X.env.cells scope.names []) pm (.ref c') ctv) ⟨[], []⟩ = pure [])
    (tk : Takes ((cxOf CXg X.prog X.w X.K X.mg X.base Ng qg sg g cdg X.A X.stack s H Eg).tr pn xe) W) (hr : Room (k + 1) (X.A.deeper (envOfC qg sg s.heap.objs.size g cdg)))
    (bd : ∀ (E : XK) (A : Around) (outer : List Env) (s : Shared) (H : Hp), Room k (A.deeper (lamEnv X scope s.heap.objs.size f c')) → PE (lamCx X A outer s H E scope f c') body (tb E))
    (hN : Ng[i]? = some a) (hv : Vis sg a) (hd : (a == ("__debug__" : Str)) = false := by decide) (hcd : (a == ("__classdict__" : Str)) = false := by decide) :
    PE ((cxOf CXg X.prog X.w X.K X.mg X.base Ng qg sg g cdg X.A X.stack s H Eg).tr pn xe) (.Call (.Name a p1) [] [] p2)
      (fun σZ HZ Q => σZ[i]? = some (some (.ref f)) ∧ HZ c' = some (CodeO c' (lamName X)) ∧ tb (fun cls d H' => W cls d σZ H') σ HZ Q) := by
  constructor
  rintro pZ sZ σZ HZ Q IZ ⟨hs, hc, ht⟩
  apply wpAny_Call_Name_kw
  apply thn ((pe_var (pos := p1) (i := i) hN hv hd hcd).run pZ sZ σZ HZ (fun v H1 => v = .ref f ∧ H1 = HZ) IZ ⟨.ref f, hs, rfl, rfl⟩)
  rintro u s1 ⟨v, H1, I1, r1, rfl, rfl⟩
  obtain rfl : u = Value.ref f := r1
  have un : Un (frs X.stack) [] H H1 s.heap s1.heap := I1.base
  have of1 := un.keep f _ hf hfn hfr (fun z => nomatch (show f ∈ ([] : List Addr) from z))
  apply PySem.W.callWith_F0 ⟨_, _, _, _, of1⟩
  have rc := lam_runs (E := fun cls d H' => W cls d σZ H') (Q := Q) I L of1 un I1.env0 hr hc nb (fun h => bd _ _ _ _ _ h) ht
  apply wpAny_call
  apply codeAny_mono rc
  intro r s' hq
  match r, hq with
  | .error e, hq => exact passAt tk σZ pZ H1 s1 e s' I1 hq
  | .ok .next, hq => exact hq.elim
  | .ok .brk, hq => exact hq.elim
  | .ok .cont, hq => exact hq.elim
  | .ok (.ret w), hq => exact I1.after hq
/-- what a def makes of the lambda that it calls as a: TT, from the lambda's reading -/
def Asks (X : Cx) (Ng : List Str) (x : Str) (sg : Scope) (g : Addr) (cdg : Value) (bg : List Stmt) (a : Str) (q : Str) (TT : (XK → Hp → VK → Prop) → Hp → VK → Prop) : Prop :=
  ∀ (f c' : Addr) (s : Shared) (H : Hp) (Q : VK) (tl : XK → Hp → VK → Prop),
    (∀ (W : WX) (pn : List (Addr × Obj)) (xe : Value → Shared → Prop) (p1 p2 : Pos), Takes ((cxOf C8.CX0 X.prog X.w X.K X.mg X.base Ng x sg g cdg X.A X.stack s H C8.E0).tr pn xe) W →
      PE ((cxOf C8.CX0 X.prog X.w X.K X.mg X.base Ng x sg g cdg X.A X.stack s H C8.E0).tr pn xe) (.Call (.Name a p1) [] [] p2) (fun σZ HZ Q => σZ[0]? = some (some (.ref f)) ∧ HZ c' = some (CodeO c' q) ∧ tl (fun cls d H' => W cls d σZ H') HZ Q)) →
    H c' = some (CodeO c' q) → TT tl H Q →
    ∃ t, PSs (cxOf C8.CX0 X.prog X.w X.K X.mg X.base Ng x sg g cdg X.A X.stack s H C8.E0).nox bg t ∧ t { nx := fun _ H' => Q .non H', rt := Q } (L2.start Ng [.ref f]) H
/-- x(lambda: body) -/
theorem pe_asks {T : List (Addr × Str)} {TT : (XK → Hp → VK → Prop) → Hp → VK → Prop} {x a : Str} {g c P : Addr} {k : Nat} {pg : Arguments} {bg : List Stmt} {sg : Scope} {dV kV doc pm cdv ct oc : Value} {an od : Option Addr} {osl : Array (Option Value)} {Ng : List Str}
    {params : Arguments} {body : Expr} {scope : Scope} {t : XK → TE} {p lpos pos : Pos} (hg : Gl X x) (hm : X.mg x = some (.ref g)) (hk : PySem.W.keepIn X.K (.ref g) = true)
    (lk : X.K.lookup g = some ⟨oc, od, .func (PySem.W.fnOf x x pg bg sg dV kV doc pm an cdv ct), osl⟩) (hcg : PySem.W.codeIn X.K cdv x = true) (hb : L2.Binds X.K (PySem.W.fnOf x x pg bg sg dV kV doc pm an cdv ct) [a] []) (Sg : FnScope Ng [a] sg) (hNg : Ng[0]? = some a) (hva : Vis sg a)
    (hG : Asks X Ng x sg g cdv bg a (lamName X) TT)
    (TB : TabB X.base X.mg c P) (hcode : X.env.code = .ref c) (hmT : (P, lamName X) ∈ T) (hu : ∀ p ∈ T, p.1 = P → p.2 = lamName X) (hr : Room (k + 2) X.A) (L : LamS X.env.scope scope) (hdef : defaultsOf params X.env = ([], []))
    (nb : ∀ (q : Str) (cl : List (Str × Addr)) (pm cv ctv : Value), bindArgs (PySem.W.kla_fn "<lambda>" q params body scope cl pm cv ctv) ⟨[], []⟩ = pure [])
    (bd : ∀ (A : Around) (outer : List Env) (s : Shared) (H : Hp) (E : XK) (f c' : Addr), Room k (A.deeper (lamEnv X scope s.heap.objs.size f c')) → PE (lamCx X A outer s H E scope f c') body (t E))
    (hdb : (x == ("__debug__" : Str)) = false := by decide) (hd : (a == ("__debug__" : Str)) = false := by decide) (hcd : (a == ("__classdict__" : Str)) = false := by decide) :
    PE X (.Call (.Name x p) [.Lambda params body scope lpos] [] pos) (tLam T TT t) := by
  constructor
  rintro pins s σ H Q I ⟨hT, h⟩
  apply wpAny_Call_Name_kw
  apply ld_glob I hg hm _ hdb
  refine PySem.W.callWith_K (h₀ := X.base) I.ok.mod.kin hk ?_ (by rfl) (by rfl)
  show wpAny _ _ (spliced ((false, eval (.Lambda params body scope lpos) X.env) :: backTo pos (starEach [] X.env))) _ _ s
  apply Calls.spliced_cons
  apply lam_make2 I TB hcode hmT hu hT hdef (L.has I.ok)
  intro f c' pm' ctv H1 s' I1 eN T1 hf hfn hfr hco
  refine Calls.spliced_nil ⟨I1.kIn, ?_⟩
  have rc : codeAny (model X.prog X.w) X.A (.call (.ref g) ⟨[.ref f], []⟩) (CR C8.CX0 X.stack X.prog X.w H1 s' Q C8.E0) s' := by
    refine run_ofS (N := Ng) (ps := [a]) (us := [.ref f]) (vs := [.ref f]) lk hcg Sg hr I1.env0 (hb s' [.ref f] I1.kIn rfl) (.cons rfl .nil) rfl fun hr' => ?_
    obtain ⟨t', ht', hq'⟩ := hG f c' s' H1 Q (fun E H' Q' => t E σ H' Q') (fun W pn xe p1 p2 tk => pe_ask (i := 0) (tb := t) I1 L hf hfn hfr (nb _ _ _ _ _) tk hr' (fun E A outer s H hr2 => bd A outer s H E f c' hr2) hNg hva hd hcd) hco (h H1 eN T1)
    exact ⟨t', ht'.nox, hq'⟩
  apply wpAny_call
  apply codeAny_mono rc
  intro r s2 hq
  match r, hq with
  | .error e, hq => exact (show False from hq).elim
  | .ok .next, hq => exact hq.elim
  | .ok .brk, hq => exact hq.elim
  | .ok .cont, hq => exact hq.elim
  | .ok (.ret w), hq => exact I1.after hq
end
end G

namespace G

/-! ### fractions in least terms -/
/-- what both are divided by -/
def byOf (n u : Int) : Int := if u < 0 then -((Nat.gcd n.natAbs u.natAbs : Nat) : Int) else ((Nat.gcd n.natAbs u.natAbs : Nat) : Int)
def rNum (n u : Int) : Int := n.fdiv (byOf n u)
def rUnd (n u : Int) : Int := u.fdiv (byOf n u)
structure Red (n u : Int) : Prop where
  pos : 0 < u
  one : Nat.gcd n.natAbs u.natAbs = 1
theorem g_pos {n u : Int} (h : u ≠ 0) : 0 < Nat.gcd n.natAbs u.natAbs := Nat.gcd_pos_of_pos_right _ (by omega)
theorem byOf_ne {n u : Int} (h : u ≠ 0) : byOf n u ≠ 0 := by
  have := g_pos (n := n) h
  unfold byOf
  split <;> omega
theorem byOf_abs {n u : Int} : (byOf n u).natAbs = Nat.gcd n.natAbs u.natAbs := by
  unfold byOf
  split <;> omega
theorem byOf_le {n u : Int} (h : u ≠ 0) : (byOf n u).natAbs ≤ u.natAbs := by
  rw [byOf_abs]
  exact Nat.le_of_dvd (by omega) (Nat.gcd_dvd_right _ _)
theorem byOf_num {n u : Int} : byOf n u ∣ n := by
  rw [← Int.natAbs_dvd_natAbs, byOf_abs]
  exact Nat.gcd_dvd_left _ _
theorem byOf_und {n u : Int} : byOf n u ∣ u := by
  rw [← Int.natAbs_dvd_natAbs, byOf_abs]
  exact Nat.gcd_dvd_right _ _
theorem fd_of {c n : Int} (hc : c ≠ 0) (h : c ∣ n) : c * n.fdiv c = n := by
  rw [Int.fdiv_eq_ediv_of_dvd h]
  exact Int.mul_ediv_cancel' h
theorem num_mul {n u : Int} (h : u ≠ 0) : byOf n u * rNum n u = n := fd_of (byOf_ne h) byOf_num
theorem und_mul {n u : Int} (h : u ≠ 0) : byOf n u * rUnd n u = u := fd_of (byOf_ne h) byOf_und
theorem red_of {n u : Int} (h : u ≠ 0) : Red (rNum n u) (rUnd n u) := by
  have h1 := num_mul (n := n) h
  have h2 := und_mul (n := n) h
  have hg := g_pos (n := n) h
  constructor
  · by_cases hu : u < 0
    · have e : byOf n u < 0 := by
        unfold byOf
        rw [if_pos hu]
        omega
      rcases Int.lt_trichotomy (rUnd n u) 0 with z | z | z
      · have := Int.mul_pos_of_neg_of_neg e z
        omega
      · rw [z, Int.mul_zero] at h2
        omega
      · exact z
    · have e : 0 < byOf n u := by
        unfold byOf
        rw [if_neg hu]
        omega
      rcases Int.lt_trichotomy (rUnd n u) 0 with z | z | z
      · have := Int.mul_neg_of_pos_of_neg e z
        omega
      · rw [z, Int.mul_zero] at h2
        omega
      · exact z
  · have e1 : n.natAbs = Nat.gcd n.natAbs u.natAbs * (rNum n u).natAbs := by
      have := congrArg Int.natAbs h1
      rw [Int.natAbs_mul, byOf_abs] at this
      exact this.symm
    have e2 : u.natAbs = Nat.gcd n.natAbs u.natAbs * (rUnd n u).natAbs := by
      have := congrArg Int.natAbs h2
      rw [Int.natAbs_mul, byOf_abs] at this
      exact this.symm
    have e3 : Nat.gcd n.natAbs u.natAbs = Nat.gcd n.natAbs u.natAbs * Nat.gcd (rNum n u).natAbs (rUnd n u).natAbs := by
      rw [← Nat.gcd_mul_left, ← e1, ← e2]
    exact Nat.eq_of_mul_eq_mul_left hg (by omega)
theorem Red.same {n u : Int} (r : Red n u) : rNum n u = n ∧ rUnd n u = u := by
  have e : byOf n u = 1 := by
    unfold byOf
    rw [r.one, if_neg (by have := r.pos; omega)]
    rfl
  unfold rNum rUnd
  rw [e]
  exact ⟨Int.fdiv_one _, Int.fdiv_one _⟩
theorem Red.neg {n u : Int} (r : Red n u) : Red (-n) u := ⟨r.pos, by rw [Int.natAbs_neg]; exact r.one⟩
theorem Red.abs {n u : Int} (r : Red n u) : Red (if n < 0 then -n else n) u := by
  split
  · exact r.neg
  · exact r
theorem red_int (n : Int) : Red n 1 := ⟨by decide, by rw [show (1 : Int).natAbs = 1 from rfl, Nat.gcd_one_right]⟩
theorem num_le {n u : Int} (h : u ≠ 0) : (rNum n u).natAbs ≤ n.natAbs := by
  have h1 := num_mul (n := n) h
  have hg := g_pos (n := n) h
  have := congrArg Int.natAbs h1
  rw [Int.natAbs_mul, byOf_abs] at this
  rw [← this]
  exact Nat.le_mul_of_pos_left _ hg
theorem und_le {n u : Int} (h : u ≠ 0) : (rUnd n u).natAbs ≤ u.natAbs := by
  have h1 := und_mul (n := n) h
  have hg := g_pos (n := n) h
  have := congrArg Int.natAbs h1
  rw [Int.natAbs_mul, byOf_abs] at this
  rw [← this]
  exact Nat.le_mul_of_pos_left _ hg
/-- one step of the law's own greatest common divisor -/
theorem gcd_step {a b : Int} (ha : 0 ≤ a) (hb : 0 < b) : Nat.gcd b.natAbs (a.fmod b).natAbs = Nat.gcd a.natAbs b.natAbs := by
  rw [Int.fmod_eq_emod_of_nonneg a (by omega)]
  obtain ⟨m, rfl⟩ := Int.eq_ofNat_of_zero_le ha
  obtain ⟨k, rfl⟩ := Int.eq_ofNat_of_zero_le (Int.le_of_lt hb)
  show Nat.gcd k ((m : Int) % (k : Int)).natAbs = Nat.gcd m k
  rw [show ((m : Int) % (k : Int)).natAbs = m % k by omega, Nat.gcd_comm k, ← Nat.gcd_rec, Nat.gcd_comm]
end G

namespace G
open PySem PySem.Spec PyProof.Rows L2 PySem.Calls

/-! ### abs and repr of instances; repr of longer data -/
section
variable {prog : Program} {w : World} {A : Around} {E : Value → Shared → Prop} {s : Shared} {K : PySem.W.Frag} {x C f : Addr} {ox : Obj} {od : Option Obj}
theorem abs_K {Q : Value → Shared → Prop} (X : K.In s.heap) (I : PySem.W.InstAt s.heap x ox C od) (hs : PySem.W.findIn K (.ref C) "__abs__" = some (some (.ref f))) (hf : PySem.W.isFn K (.ref f) = true)
    (h : wpAny (model prog w) A.in1 (call (.ref f) [.ref x]) Q E s) : wpAny (model prog w) A (call (.builtin "abs") [.ref x]) Q E s := by
  apply call_function_entry kind_abs plain_abs entry_abs (args_abs _)
  unfold Builtin.«abs»
  refine wpAny_bind (m := oneArg "abs" _) (wpAny_pure ?_)
  refine wpAny_bind (m := callSpecial? (.ref x) (Str.ofString "__abs__")) (PySem.W.special_fn X I hs (beq_iff_eq.mp hf) (wpAny_mono h (fun v s' z => ?_) fun _ _ y => y))
  exact wpAny_pure ⟨_, rfl, z⟩
end
section
variable {X : Cx} {CX : CXT} {n : Nat} {C f : Addr} {sp : Sp} {E : XK}
/-- abs(x), repr(x) of an instance -/
def rOneK (C : Addr) (sp : Sp) (E : XK) : List V → Hp → VK → Prop := fun xs H Q => ∃ a dx fs, xs = [.ref a] ∧ H a = some (.ins C dx fs) ∧ sp [.ref a] H Q E
theorem call_absK (hs : PySem.W.findIn X.K (.ref C) "__abs__" = some (some (.ref f))) (hf : PySem.W.isFn X.K (.ref f) = true) (F : FnR X.prog X.w X.K X.mg X.base CX n f sp) (hr : Room (n + 1) X.A) (hx : Passes CX X E) :
    CallR X (.builtin "abs") (rOneK C sp E) := by
  intro pins s σ H xs us Q I r h
  obtain ⟨a, dx, fs, rfl, ha, q⟩ := h
  obtain ⟨u, rfl, ru⟩ := vals1 r
  cases (show u = Value.ref a from ru)
  obtain ⟨od, mA, J, _⟩ := ins_inst I ha
  have hr1 : Room n X.A.in1 := Room.in1 hr
  exact abs_K I.kIn J hs hf (wpAny_call (SlX.run_at (us := [.ref a]) (ws := [.ref a]) F hr1 I.env0.in1 hx I (.cons rfl .nil) q))
theorem call_reprK (hs : PySem.W.findIn X.K (.ref C) "__repr__" = some (some (.ref f))) (hf : PySem.W.isFn X.K (.ref f) = true) (F : FnR X.prog X.w X.K X.mg X.base CX n f sp) (hr : Room (n + 1) X.A) (hx : Passes CX X E) :
    CallR X (.builtin "repr") (fun xs H Q => ∃ a dx fs, xs = [.ref a] ∧ H a = some (.ins C dx fs) ∧ sp [.ref a] H (fun v H' => ∃ t, v = .str t ∧ Q v H') E) := by
  intro pins s σ H xs us Q I r h
  obtain ⟨a, dx, fs, rfl, ha, q⟩ := h
  obtain ⟨u, rfl, ru⟩ := vals1 r
  cases (show u = Value.ref a from ru)
  obtain ⟨od, mA, J, _⟩ := ins_inst I ha
  obtain ⟨m, hF⟩ := I.fr
  have hr1 : Room n X.A.in1 := Room.in1 hr
  refine PySem.W.repr_K hr1.units0 hF I.ok.mod.kin J hs hf (wpAny_mono (wpAny_call (SlX.run_at (us := [.ref a]) (ws := [.ref a]) F hr1 I.env0.in1 hx I (.cons rfl .nil) q)) (fun v s' z => ?_) fun _ _ y => y)
  obtain ⟨z, H', I', rz, t, rfl, q'⟩ := z
  obtain ⟨tk, e⟩ := (show ∃ tk, v = Value.str t tk from rz)
  cases e
  exact ⟨.str t, H', I', ⟨tk, rfl⟩, q'⟩
/-- repr of data of any leaves, its length told -/
theorem call_reprL (hq : Quiet X.A) (hu : X.A.units + 64 < cLine) : CallR X (.builtin "repr") (fun xs H Q => ∃ v d, xs = [v] ∧ Da H v d ∧ d.showable = true ∧ d.depth ≤ 20 ∧ d.shown.length ≤ sizeLine ∧ Q (.str d.shown) H) := by
  intro pins s σ H xs us Q I r h
  obtain ⟨v, d, rfl, hd, hz, hk, fits, q⟩ := h
  obtain ⟨u, rfl, ru⟩ := vals1 r
  have tail : ∀ (A : Addr), u = .ref A → wpAny (model X.prog X.w) X.A (call (.builtin "repr") [u]) (EP X pins σ Q) X.xe s := by
    rintro a rfl
    obtain ⟨as, hr, hns⟩ := Da.reads I hd ru
    refine repr_of_reads' (h₀ := s.heap) hr hz (fun _ => hns) hq (by omega) (fun _ _ z => z) (fun h' t tk hk => ?_) fits
    exact ⟨.str d.shown, H, I.kept hk, ⟨_, rfl⟩, q⟩
  cases hd with
  | non => cases ru; exact P.repr_of_none ⟨.str _, H, I.tok _, ⟨_, rfl⟩, q⟩
  | bl b =>
    cases ru
    refine P.repr_of_bool ?_
    exact ⟨.str _, H, I.tok _, ⟨_, rfl⟩, q⟩
  | int i =>
    obtain ⟨t, rfl⟩ := ru
    have hz : i.natAbs.log2 < 1920 := by simpa [PyData.showable] using hz
    exact P.repr_of_int hz ⟨.str _, H, I.tok _, ⟨_, rfl⟩, q⟩
  | str x =>
    obtain ⟨t, rfl⟩ := ru
    exact P.repr_of_str ⟨.str _, H, I.tok _, ⟨_, rfl⟩, q⟩ fits
  | lst e n t => cases ru; exact tail _ rfl
  | tup e t => cases ru; exact tail _ rfl
  | dct e t => cases ru; exact tail _ rfl
end
end G

namespace G
open PySem PySem.Spec PyProof.Rows L2 SeqAt

/-! ### v == 0 of any data, dicts too -/
theorem dict_no_int (a : Addr) (xs : Array DictEntry) (k : Nat) (md : Option Addr) (zs : Array (Option Value)) (i : Int) (t : Tok) :
    Meets (Builtin.«dict.__eq__» ⟨[.ref a, .int i t], []⟩) (fun _ T st => st.heap.get? a = some { cls := .type "dict", dict := md, data := .dict xs k, slots := zs } ∧ T (.ok (.ret .notImplemented)) st) := by
  refine .of_wp fun prog w A T st z => ?_
  obtain ⟨z1, z2⟩ := z
  obtain ⟨hp, gn, dr, tk, os⟩ := st
  have no := PySem.F.sub_int_dict
  wp_walk using wpAny_loadPart' z1
  exact ⟨_, rfl, z2⟩
theorem int_no_dict (a : Addr) (xs : Array DictEntry) (k : Nat) (md : Option Addr) (zs : Array (Option Value)) (i : Int) (t : Tok) :
    Meets (Builtin.«int.__eq__» ⟨[.int i t, .ref a], []⟩) (fun _ T st => st.heap.get? a = some { cls := .type "dict", dict := md, data := .dict xs k, slots := zs } ∧ T (.ok (.ret .notImplemented)) st) := by
  refine .of_wp fun prog w A T st z => ?_
  obtain ⟨z1, z2⟩ := z
  obtain ⟨hp, gn, dr, tk, os⟩ := st
  wp_walk using wpAny_loadPart' z1, wpAny_load z1
  exact ⟨_, rfl, z2⟩
theorem rc_dict_int {A : Around} {st : Shared} {a : Addr} {o : Obj} {xs : Array DictEntry} {k : Nat} (i : Int) (t : Tok) (g : st.heap.get? a = some o) (c : o.cls = .type "dict") (dd : o.data = .dict xs k) (room : A.units < cLine) : RcAt A st (.ref a) (.int i t) false := fun prog w E Q q => by
  obtain ⟨oc, md, da, zs⟩ := o
  simp only at c dd
  subst c dd
  refine rc_eq_decline_or (k := false) ⟨_, g, rfl⟩ (typeIs_int st i t) (by decide) PySem.F.sub_int_dict PySem.F.slot_dict_eq PySem.F.slot_int_eq_refl ?_ ?_ ?_ (.inr room) q
  · exact fun T qT => call_meets PySem.F.slot_dict_eq ⟨_, g, rfl⟩ PySem.F.entry_dict_eq (PySem.F.args_dict_eq_2 _ _) (dict_no_int a xs k md zs i t) ⟨g, qT⟩
  · exact fun T qT => call_meets PySem.F.slot_int_eq_refl (typeIs_int st i t) PySem.F.entry_int_eq (PySem.F.args_int_eq_2 _ _) (int_no_dict a xs k md zs i t) ⟨g, qT⟩
  · exact fun T qT => wpAny_of_eq (rfl : isSame (.ref a) (.int i t) = pure false) qT
/-- whether data equal 0 -/
def zeroD : PyData → Bool
  | .int i => i == 0
  | .bool b => (if b then (1 : Int) else 0) == 0
  | _ => false
def rEq0 : R2 := fun x y H Q => ∃ d, y = .int 0 ∧ Da H x d ∧ Q (.bl (zeroD d)) H
theorem op_eq0 {X : Cx} (room : X.A.units + 64 < cLine) : OpR X (compareOp .Eq) rEq0 := by
  intro pins s σ H x y v u Q I rx ry h
  obtain ⟨d, rfl, hd, q⟩ := h
  obtain ⟨tk, rfl⟩ := (show ∃ tk, u = Value.int 0 tk from ry)
  have fin : ∀ b, zeroD d = b → EP X pins σ Q (.bool b) s := fun b e => ⟨.bl b, H, I, rfl, by rw [← e]; exact q⟩
  have room0 : X.A.units < cLine := by omega
  cases hd with
  | non => cases rx; exact RcAt.none_int 0 tk _ _ _ _ (fin _ rfl)
  | bl b => cases rx; exact RcAt.bool_int b 0 tk _ _ _ _ (fin _ rfl)
  | int i => obtain ⟨t, rfl⟩ := rx; exact RcAt.int_int i t 0 tk _ _ _ _ (fin _ rfl)
  | str x => obtain ⟨t, rfl⟩ := rx; exact RcAt.str_int x t 0 tk _ _ _ _ (fin _ rfl)
  | lst e n t =>
    cases rx
    obtain ⟨_, its, m, rv, ho⟩ := I.hok _ _ e
    exact RcAt.list_int 0 tk ⟨_, ho, rfl, _, rfl⟩ room0 _ _ _ _ (fin _ rfl)
  | tup e t =>
    cases rx
    obtain ⟨_, its, rv, ho⟩ := I.hok _ _ e
    exact RcAt.tuple_int 0 tk ho room0 _ _ _ _ (fin _ rfl)
  | dct e t =>
    cases rx
    obtain ⟨_, hs, vs, rel, o, es, ep, ho, hx, hd, _⟩ := I.hok _ _ e
    exact rc_dict_int 0 tk ho hx.1 hd room0 _ _ _ _ (fin _ rfl)
end G

namespace My
open PySem PySem.Spec PyProof.Rows L2 G
def topS (i : Nat) : Stmt := PySem.Challenge.pw_seenabout_k02_ratios_reckoned.main.body.getD i (.Pass ⟨0, 0, 0, 0⟩)
abbrev s__law_pot : Stmt := topS 18
theorem sc__law_pot : FnScope ["_law_script", "_law_k", "_law_cell", "_law_own", "_law_small"] ["_law_script", "_law_k"] (defScope s__law_pot) := ⟨rfl, rfl, rfl, by decide +kernel, rfl, by decide +kernel, by decide +kernel⟩

abbrev s__law_take : Stmt := topS 19
theorem sc__law_take : FnScope ["_law_pot_here", "_law_upto", "_law_digit", "_law_prime", "_law_blend"] ["_law_pot_here", "_law_upto"] (defScope s__law_take) := ⟨rfl, rfl, rfl, by decide +kernel, rfl, by decide +kernel, by decide +kernel⟩

abbrev s__law_of : Stmt := topS 20
theorem sc__law_of : FnScope ["_law_pot_here", "_law_some"] ["_law_pot_here", "_law_some"] (defScope s__law_of) := ⟨rfl, rfl, rfl, by decide +kernel, rfl, by decide +kernel, by decide +kernel⟩

abbrev s__law_places : Stmt := topS 21
theorem sc__law_places : FnScope ["_law_script", "_law_most"] ["_law_script", "_law_most"] (defScope s__law_places) := ⟨rfl, rfl, rfl, by decide +kernel, rfl, by decide +kernel, by decide +kernel⟩

structure Ad where
  init : Addr
  AboutError : Addr
  BadRatio : Addr
  Ratio : Addr
  _law_pot : Addr
  _law_take : Addr
  _law_of : Addr
  _law_places : Addr
  _law_told : Addr
  _law_is_int : Addr
  _law_odd : Addr
  _law_common : Addr
  _law_pair : Addr
  _law_pair_of : Addr
  _law_drawn : Addr
  _law_sum : Addr
  _law_product : Addr
  _law_order : Addr
  _law_pair_right : Addr
  _law_whole_right : Addr
  _law_right : Addr
  law : Addr
  is_integer : Addr
  is_number : Addr
  as_ratio : Addr
  difference : Addr
  written : Addr
  Ratio___init__ : Addr
  Ratio_divided : Addr
  Ratio___add__ : Addr
  Ratio___radd__ : Addr
  Ratio___sub__ : Addr
  Ratio___rsub__ : Addr
  Ratio___mul__ : Addr
  Ratio___rmul__ : Addr
  Ratio___neg__ : Addr
  Ratio___abs__ : Addr
  Ratio___lt__ : Addr
  Ratio___le__ : Addr
  Ratio___gt__ : Addr
  Ratio___ge__ : Addr
  Ratio___repr__ : Addr
/-- what isinstance asks of a class of plain instances -/
structure RI (K : PySem.W.Frag) (C : Addr) : Prop where
  ca : PySem.W.findIn K (.ref C) "__class__" = some (some (.builtin "object.__class__"))
  cn : PySem.W.specialIn K (.builtin "object.__class__") "__get__" = some (some (.builtin "getset_descriptor.__get__"))
  ct : PySem.W.takesIn K (.builtin "object.__class__") = some true
  cm : PySem.W.mroIn K C (.type "object") = some true
  ki : PySem.W.kitOne K (.ref C) (.type "int") = some false
  kb : PySem.W.kitOne K (.ref C) (.type "bool") = some false
  ks : PySem.W.kitOne K (.ref C) (.ref C) = some true
  kt : ∀ t ∈ (["int", "bool", "NoneType", "str", "tuple", "list", "dict"] : List String), PySem.W.kitOne K (.type t) (.ref C) = some false
/-- what the top has written -/
structure Txt (K : PySem.W.Frag) (mg : Str → Option Value) (a : Ad) : Prop where
  n_abs : mg "abs" = none
  n_all : mg "all" = none
  n_bool : mg "bool" = none
  n_int : mg "int" = none
  n_isinstance : mg "isinstance" = none
  n_len : mg "len" = none
  n_list : mg "list" = none
  n_max : mg "max" = none
  n_min : mg "min" = none
  n_range : mg "range" = none
  n_repr : mg "repr" = none
  n_divmod : mg "divmod" = none
  n_str : mg "str" = none
  g_AboutError : mg "AboutError" = some (.ref a.AboutError)
  g_BadRatio : mg "BadRatio" = some (.ref a.BadRatio)
  c_BadRatio : EC K a.BadRatio
  i_BadRatio : PySem.W.findIn K (.ref a.BadRatio) "__init__" = some (some (.ref a.init))
  tI : PySem.W.typeIn K (.ref a.init) = some (.type "function")
  ek : EK K
  x_BadRatio : PySem.W.exmOne K (.ref a.BadRatio) (.ref a.AboutError) = some true
  t_BadRatio : PySem.W.kitOne K (.ref a.BadRatio) (.ref a.BadRatio) = some true
  dv : Meth K a.Ratio "divided" a.Ratio_divided
  absA : PySem.W.findIn K (.ref a.Ratio) "__abs__" = some (some (.ref a.Ratio___abs__))
  absF : PySem.W.isFn K (.ref a.Ratio___abs__) = true
  reprA : PySem.W.findIn K (.ref a.Ratio) "__repr__" = some (some (.ref a.Ratio___repr__))
  reprF : PySem.W.isFn K (.ref a.Ratio___repr__) = true
  g_gcd : mg "gcd" = some (.builtin "math.gcd")
  g__law_pot : mg "_law_pot" = some (.ref a._law_pot)
  k__law_pot : PySem.W.keepIn K (.ref a._law_pot) = true
  g__law_take : mg "_law_take" = some (.ref a._law_take)
  k__law_take : PySem.W.keepIn K (.ref a._law_take) = true
  g__law_of : mg "_law_of" = some (.ref a._law_of)
  k__law_of : PySem.W.keepIn K (.ref a._law_of) = true
  g__law_places : mg "_law_places" = some (.ref a._law_places)
  k__law_places : PySem.W.keepIn K (.ref a._law_places) = true
  g__law_told : mg "_law_told" = some (.ref a._law_told)
  k__law_told : PySem.W.keepIn K (.ref a._law_told) = true
  g__law_is_int : mg "_law_is_int" = some (.ref a._law_is_int)
  k__law_is_int : PySem.W.keepIn K (.ref a._law_is_int) = true
  g__law_odd : mg "_law_odd" = some (.ref a._law_odd)
  k__law_odd : PySem.W.keepIn K (.ref a._law_odd) = true
  g__law_common : mg "_law_common" = some (.ref a._law_common)
  k__law_common : PySem.W.keepIn K (.ref a._law_common) = true
  g__law_pair : mg "_law_pair" = some (.ref a._law_pair)
  k__law_pair : PySem.W.keepIn K (.ref a._law_pair) = true
  g__law_pair_of : mg "_law_pair_of" = some (.ref a._law_pair_of)
  k__law_pair_of : PySem.W.keepIn K (.ref a._law_pair_of) = true
  g__law_drawn : mg "_law_drawn" = some (.ref a._law_drawn)
  k__law_drawn : PySem.W.keepIn K (.ref a._law_drawn) = true
  g__law_sum : mg "_law_sum" = some (.ref a._law_sum)
  k__law_sum : PySem.W.keepIn K (.ref a._law_sum) = true
  g__law_product : mg "_law_product" = some (.ref a._law_product)
  k__law_product : PySem.W.keepIn K (.ref a._law_product) = true
  g__law_order : mg "_law_order" = some (.ref a._law_order)
  k__law_order : PySem.W.keepIn K (.ref a._law_order) = true
  g__law_pair_right : mg "_law_pair_right" = some (.ref a._law_pair_right)
  k__law_pair_right : PySem.W.keepIn K (.ref a._law_pair_right) = true
  g__law_whole_right : mg "_law_whole_right" = some (.ref a._law_whole_right)
  k__law_whole_right : PySem.W.keepIn K (.ref a._law_whole_right) = true
  g__law_right : mg "_law_right" = some (.ref a._law_right)
  k__law_right : PySem.W.keepIn K (.ref a._law_right) = true
  g_law : mg "law" = some (.ref a.law)
  k_law : PySem.W.keepIn K (.ref a.law) = true
  g_is_integer : mg "is_integer" = some (.ref a.is_integer)
  k_is_integer : PySem.W.keepIn K (.ref a.is_integer) = true
  g_is_number : mg "is_number" = some (.ref a.is_number)
  k_is_number : PySem.W.keepIn K (.ref a.is_number) = true
  g_as_ratio : mg "as_ratio" = some (.ref a.as_ratio)
  k_as_ratio : PySem.W.keepIn K (.ref a.as_ratio) = true
  g_difference : mg "difference" = some (.ref a.difference)
  k_difference : PySem.W.keepIn K (.ref a.difference) = true
  g_PART : ∃ t, mg "_PART" = some (.int (10 ^ 64) t)
  g_written : mg "written" = some (.ref a.written)
  k_written : PySem.W.keepIn K (.ref a.written) = true
  g_Ratio : mg "Ratio" = some (.ref a.Ratio)
  m_Ratio : Mk K a.Ratio a.Ratio___init__
  cl : Cls K a.Ratio
  nN : NoAttr K a.Ratio "number"
  nU : NoAttr K a.Ratio "under"
  ri : RI K a.Ratio
  o_add : OpC K a.Ratio a.Ratio___add__ a.Ratio___radd__ "add"
  o_sub : OpC K a.Ratio a.Ratio___sub__ a.Ratio___rsub__ "sub"
  o_mul : OpC K a.Ratio a.Ratio___mul__ a.Ratio___rmul__ "mul"
  c_lt : CmpC K a.Ratio a.Ratio___lt__ a.Ratio___gt__ .Lt
  c_le : CmpC K a.Ratio a.Ratio___le__ a.Ratio___ge__ .LtE
  c_gt : CmpC K a.Ratio a.Ratio___gt__ a.Ratio___lt__ .Gt
  c_ge : CmpC K a.Ratio a.Ratio___ge__ a.Ratio___le__ .GtE
  neg : PySem.W.findIn K (.ref a.Ratio) "__neg__" = some (some (.ref a.Ratio___neg__))
  negF : PySem.W.isFn K (.ref a.Ratio___neg__) = true

/-! ### the pot: three ints, of which the last counts -/
def PotAt (H : Hp) (p : Addr) (n : Nat) : Prop := ∃ a b c : Int, H p = some (.lst [.int a, .int b, .int c]) ∧ (0 ≤ a ∧ a < 10 ^ 300) ∧ (0 ≤ b ∧ b < 2 ^ 61) ∧ (0 ≤ c ∧ c ≤ (n : Int))
/-- the heap without the pot -/
noncomputable abbrev wo (p : Addr) (H : Hp) : Hp := mask (fun b => b = p) H
theorem wo_ne {p b : Addr} {H : Hp} (h : b ≠ p) : wo p H b = H b := mask_out h
theorem wo_same {p : Addr} {H : Hp} : wo p H p = none := mask_in rfl
theorem wo_le (p : Addr) (H : Hp) : Same (wo p H) H := mask_le _ _
theorem wo_upd {p : Addr} {H : Hp} {o : HO} : wo p (upd H p o) = wo p H := by
  funext b
  by_cases e : b = p
  · rw [e, wo_same, wo_same]
  · rw [wo_ne e, wo_ne e, upd_ne e]
/-- all but the pot stays, the pot is one still -/
structure Go (p : Addr) (n : Nat) (H H' : Hp) : Prop where
  keep : Same (wo p H) (wo p H')
  pot : PotAt H' p n
theorem Go.trans {p : Addr} {m n : Nat} {H H1 H2 : Hp} (a : Go p m H H1) (b : Go p n H1 H2) : Go p n H H2 := ⟨a.keep.trans b.keep, b.pot⟩
theorem Go.at {p : Addr} {n : Nat} {H H' : Hp} (g : Go p n H H') {b : Addr} {o : HO} (h : H b = some o) (hb : b ≠ p) : H' b = some o := wo_le p H' _ _ (g.keep b o (by rw [wo_ne hb]; exact h))

def spPot (K : PySem.W.Frag) : Sp := fun vs H Q _ => ∃ (s : Addr) (ns : List Int) (k : Int), vs = [.ref s, .int k] ∧ SqL K H s (ns.map V.int) ∧ ns.length ≤ 63 ∧ 0 ≤ k ∧ k ≤ 100 ∧
  ∀ p H', H p = none → Same H H' → PotAt H' p 0 → Q (.ref p) H'
def spTake : Sp := fun vs H Q _ => ∃ (p : Addr) (u : Int) (n : Nat), vs = [.ref p, .int u] ∧ PotAt H p n ∧ n ≤ 100000 ∧ 1 ≤ u ∧ u ≤ 10 ^ 8 ∧
  ∀ d H', 0 ≤ d → d < u → Go p (n + 1) H H' → Q (.int d) H'
def spOf : Sp := fun vs H Q _ => ∃ (p s : Addr) (n : Nat) (xs : List V), vs = [.ref p, .ref s] ∧ s ≠ p ∧ PotAt H p n ∧ n ≤ 100000 ∧ H s = some (.lst xs) ∧ xs ≠ [] ∧ xs.length ≤ 10 ^ 6 ∧
  ∀ x H', x ∈ xs → Go p (n + 1) H H' → Q x H'
def spPlaces (K : PySem.W.Frag) : Sp := fun vs H Q _ => ∃ (s : Addr) (ns : List Int) (m : Int), vs = [.ref s, .int m] ∧ SqL K H s (ns.map V.int) ∧ ns.length ≤ 63 ∧ 1 ≤ m ∧ m ≤ 100 ∧
  ∀ (l : Addr) (n : Nat) (H' : Hp), H l = none → Same H H' → (n : Int) ≤ m → H' l = some (.lst (rgV 0 n)) → Q (.ref l) H'
/-- what is kept but for the pot keeps data that lie elsewhere -/
theorem Go.mask {p : Addr} {n : Nat} {H H' : Hp} {N : Addr → Prop} (g : Go p n H H') (hp : N p) : Same (mask N H) (mask N H') := fun b o h => by
  obtain ⟨nb, e⟩ := mask_some h
  have hb : b ≠ p := fun z => nb (by rw [z]; exact hp)
  rw [mask_out nb]
  exact g.at e hb
theorem Go.is {p : Addr} {n : Nat} {H H' : Hp} {N : Addr → Prop} {G : PyData → Prop} {v : V} (g : Go p n H H') (hp : N p) (x : Is N H G v) : Is N H' G v := let ⟨d, a, y⟩ := x; ⟨d, a.same (g.mask hp), y⟩
theorem Go.of {p : Addr} {n : Nat} {H H1 H' : Hp} (S : Same H H1) (g : Go p n H1 H') : Go p n H H' := ⟨(mask_mono S).trans g.keep, g.pot⟩
theorem PotAt.same {p : Addr} {n : Nat} {H H' : Hp} (S : Same H H') (x : PotAt H p n) : PotAt H' p n := let ⟨a, b, c, h, r⟩ := x; ⟨a, b, c, S _ _ h, r⟩
theorem PotAt.mono {p : Addr} {m n : Nat} {H : Hp} (x : PotAt H p m) (h : m ≤ n) : PotAt H p n := let ⟨a, b, c, e, r1, r2, r3, r4⟩ := x; ⟨a, b, c, e, r1, r2, r3, by omega⟩
theorem PotAt.has {p : Addr} {n : Nat} {H : Hp} (x : PotAt H p n) : H p ≠ none := by obtain ⟨a, b, c, e, _⟩ := x; rw [e]; simp
theorem Go.mono {p : Addr} {m n : Nat} {H H' : Hp} (g : Go p m H H') (h : m ≤ n) : Go p n H H' := ⟨g.keep, g.pot.mono h⟩

/-- any of the odd values: new data -/
def spOdd : Sp := fun vs H Q _ => ∃ (p : Addr) (n : Nat), vs = [.ref p] ∧ PotAt H p n ∧ n ≤ 100000 ∧ ∀ v H', (∀ N, Tr N H → Is N H' (Gd 60 4) v) → Go p (n + 1) H H' → Q v H'
section
variable {P : Program} {w : World} {K : PySem.W.Frag} {mg : Str → Option Value} {base : Heap} {a : Ad}

theorem pow300 : ((10 : Int) ^ (60 : Int).toNat) ^ (5 : Int).toNat = 10 ^ 300 := by
  show ((10 : Int) ^ 60) ^ 5 = 10 ^ 300
  rw [← Int.pow_mul]
theorem cpow1 : CPowW 10 60 := ⟨by decide, by decide, by decide +kernel⟩
theorem cpow2 : CPowW ((10 : Int) ^ (60 : Int).toNat) 5 := ⟨by decide +kernel, by decide, by decide +kernel⟩
theorem cpow3 : CPowW 10 18 := ⟨by decide, by decide, by decide +kernel⟩
theorem mod300 (x : Int) : 0 ≤ x.fmod (10 ^ 300) ∧ x.fmod (10 ^ 300) < 10 ^ 300 := by
  have h : (0 : Int) < 10 ^ 300 := by decide +kernel
  exact ⟨Int.fmod_nonneg_of_pos _ h, Int.fmod_lt_of_pos _ h⟩
theorem cpow_of {i : Int} (h0 : 2 ≤ i) (h : i < 2 ^ 100) : CPowW i 3 := by
  refine ⟨h0, by decide, ?_⟩
  have h1 : i.natAbs < 2 ^ 100 := by omega
  have h2 := PySem.Flt.log2_lt_of (by decide) h1
  have h3 : Builtin.Int.intBits i ≤ i.natAbs.log2 + 1 := by
    unfold Builtin.Int.intBits
    split <;> omega
  omega
theorem b01 (b : Bool) : -(2 ^ 64) < (if b = true then (1 : Int) else 0) ∧ (if b = true then (1 : Int) else 0) < 2 ^ 64 := by cases b <;> decide
theorem own01 {x m : Int} (h : 0 ≤ x ∧ x < m) (b : Bool) : 0 ≤ x * (if b = true then (1 : Int) else 0) ∧ x * (if b = true then (1 : Int) else 0) < m := by
  cases b
  · simp; omega
  · simp; omega
theorem fm {u : Int} (x : Int) (h : 0 < u) : 0 ≤ x.fmod u ∧ x.fmod u < u := ⟨Int.fmod_nonneg_of_pos _ h, Int.fmod_lt_of_pos _ h⟩
theorem ok__law_pot {fd : FuncData} (F : Fun K "_law_pot" "_law_pot" s__law_pot a._law_pot fd) (T : Txt K mg a) :
    Fn P w K mg base CX0 1 a._law_pot fd ["_law_script", "_law_k"] (spPot K) := by
  refine ok F sc__law_pot (fun vs H Q E h => ?len) (fun cdv A outer s H vs Q E hq hr h => ⟨_,
      (Evl.pss_cut (ps_set (i := 2) sc__law_pot.nd rfl (Or.inl rfl) (pe_ifExp (pt_cmpR op_lt (pv 1) (pe_callB call_len_seq (by rfl) T.n_len (by decide +kernel) (pa_cons (pv 0) pa_nil)) (nomark _)) (pe_ix ix_list (pv 0) (pv 1) (fun _ _ => rfl)) (pe_op op_add (pe_op op_mul pe_int (pv 1)) pe_int)))
      (pss_cons (ps_set (i := 3) sc__law_pot.nd rfl (Or.inl rfl) (pe_op op_mul (pe_op op_modN (pe_callTy call_int1 (by rfl) T.n_int (by decide +kernel) (pa_cons (pe_callB call_abs (by rfl) T.n_abs (by decide +kernel) (pa_cons (pv 2) pa_nil)) pa_nil)) (pe_op op_powW (pe_op op_powW pe_int pe_int) pe_int)) (pe_callTy call_int1 (by rfl) T.n_int (by decide +kernel) (pa_cons (pe_cmpR op_ge (pe_callB call_abs (by rfl) T.n_abs (by decide +kernel) (pa_cons (pv 2) pa_nil)) (pe_op op_powW pe_int pe_int) (nomark _)) pa_nil))))
      (pss_cons (ps_set (i := 4) sc__law_pot.nd rfl (Or.inl rfl) (pe_op op_modN (pe_callTy call_int1 (by rfl) T.n_int (by decide +kernel) (pa_cons (pv 2) pa_nil)) pe_int))
      (pss_one (ps_ret (pe_lstS (pa_cons (pv 3) (pa_cons (pe_op op_modN (pe_callTy call_int1 (by rfl) T.n_int (by decide +kernel) (pa_cons (pe_op op_add (pe_op op_add (pe_op op_mul (pv 4) pe_int) (pe_op op_mul (pe_op op_mul pe_int (pv 1)) (pv 1))) pe_int) pa_nil)) pe_int) (pa_cons pe_int pa_nil))))))))), ?body⟩)
  case len => obtain ⟨s, ns, k, rfl, _⟩ := h; rfl
  case body =>
    obtain ⟨s, ns, k, rfl, hs, hl, hk0, hk1, q⟩ := h
    refine ⟨fun σ' H' => ∃ c : Int, σ' = [some (.ref s), some (.int k), some (.int c), none, none] ∧ H' = H, ?first, ?rest⟩
    case first =>
      refine ⟨_, rfl, _, rfl, _, _, rfl, .inl hs, _, _, rfl, rfl, _, rfl, ite2 (fun c => ?_) (fun c => ?_)⟩
      · have hk : k.toNat < ns.length := by
          have := of_decide_eq_true c
          rw [List.length_map] at this
          omega
        refine ⟨_, rfl, _, rfl, _, _, _, _, rfl, rfl, hs, at_of (j := k.toNat) (v := .int ns[k.toNat]) (by omega) (by rw [List.getElem?_map, List.getElem?_eq_getElem hk]; rfl), ?_⟩
        exact ⟨_, rfl, rfl⟩
      · refine ⟨_, rfl, _, _, rfl, rfl, .inl ⟨by decide, by decide⟩, _, _, rfl, rfl, ?_⟩
        exact ⟨_, rfl, rfl⟩
    case rest =>
      rintro σ' H' ⟨c, rfl, rfl⟩
      have m1 : 0 ≤ c.fmod 2305843009213693951 ∧ c.fmod 2305843009213693951 < 2305843009213693951 := ⟨Int.fmod_nonneg_of_pos _ (by decide), Int.fmod_lt_of_pos _ (by decide)⟩
      refine ⟨_, rfl, _, rfl, .inl ⟨_, rfl, _, _, rfl, rfl, cpow1, _, _, rfl, rfl, cpow2, _, _, rfl, rfl, (by rw [pow300]; show (10 ^ 300 : Int) ≠ 0; decide +kernel), _, rfl, _, rfl, _, _, rfl, rfl, cpow3, _, _, rfl, rfl, .inr ⟨_, rfl, _, _, rfl, rfl, .inr (b01 _), ?_⟩⟩⟩
      refine ⟨_, rfl, .inl ⟨_, rfl, _, _, rfl, rfl, (by show (_ : Int) ≠ 0; decide), ?_⟩⟩
      refine ⟨_, rfl, _, rfl, _, _, rfl, rfl, .inl ⟨by omega, by omega⟩, _, rfl, _, _, rfl, rfl, .inl ⟨by decide, by decide⟩, _, rfl, _, _, rfl, rfl, .inr ⟨by omega, by omega⟩, _, _, rfl, rfl, _, _, rfl, rfl, .inl ⟨_, rfl, _, _, rfl, rfl, (by show (_ : Int) ≠ 0; decide), (by show 3 ≤ sizeLine; decide), fun p h1 s1 => ?_⟩⟩
      refine q p _ h1 (fun b o z => by rw [upd_ne (ne_of_none z h1)]; exact z) ⟨_, _, _, upd_same, ?_, ?_, by decide⟩
      · rw [pow300]
        exact own01 (mod300 _) _
      · exact ⟨Int.fmod_nonneg_of_pos _ (by decide), Int.lt_trans (Int.fmod_lt_of_pos _ (by decide)) (by decide)⟩
theorem ok__law_take {fd : FuncData} (F : Fun K "_law_take" "_law_take" s__law_take a._law_take fd) (T : Txt K mg a) :
    Fn P w K mg base CX0 1 a._law_take fd ["_law_pot_here", "_law_upto"] spTake := by
  refine ok F sc__law_take (fun vs H Q E h => ?len) (fun cdv A outer s H vs Q E hq hr h => ⟨_,
      (pss_cons (ps_if (pt_cmpR op_gt (pe_ix ix_list (pv 0) pe_int (fun _ _ => rfl)) pe_int (nomark _)) (pss_cons (ps_set (i := 2) sc__law_take.nd rfl (Or.inl rfl) (pe_op op_modN (pe_callTy call_int1 (by rfl) T.n_int (by decide +kernel) (pa_cons (pe_ix ix_list (pv 0) pe_int (fun _ _ => rfl)) pa_nil)) (pv 1)))
      (pss_cons (ps_asg (pe_op op_fdivN (pe_ix ix_list (pv 0) pe_int (fun _ _ => rfl)) (pv 1)) (pg_sub (pv 0) pe_int set_list))
      (pss_one (ps_ret (pv 2))))) pss_nil)
      (pss_cons (ps_asg (pe_op op_add (pe_ix ix_list (pv 0) pe_int (fun _ _ => rfl)) pe_int) (pg_sub (pv 0) pe_int set_list))
      (pss_cons (ps_set (i := 3) sc__law_take.nd rfl (Or.inl rfl) (pe_ix ix_list (pe_lstS (pa_cons pe_int (pa_cons pe_int (pa_cons pe_int (pa_cons pe_int (pa_cons pe_int pa_nil)))))) (pe_op op_modN (pe_callTy call_int1 (by rfl) T.n_int (by decide +kernel) (pa_cons (pe_ix ix_list (pv 0) pe_int (fun _ _ => rfl)) pa_nil)) pe_int) (fun _ _ => rfl)))
      (pss_cons (ps_set (i := 4) sc__law_take.nd rfl (Or.inl rfl) (pe_op op_modN (pe_callTy call_int1 (by rfl) T.n_int (by decide +kernel) (pa_cons (pe_op op_powW (pe_callTy call_int1 (by rfl) T.n_int (by decide +kernel) (pa_cons (pe_op op_add (pe_op op_add (pe_ix ix_list (pv 0) pe_int (fun _ _ => rfl)) (pe_op op_mul (pe_op op_mul pe_int (pe_ix ix_list (pv 0) pe_int (fun _ _ => rfl))) (pe_ix ix_list (pv 0) pe_int (fun _ _ => rfl)))) pe_int) pa_nil)) pe_int) pa_nil)) (pv 3)))
      (pss_one (ps_ret (pe_op op_modN (pe_callTy call_int1 (by rfl) T.n_int (by decide +kernel) (pa_cons (pe_op op_fdivN (pe_op op_mul (pv 4) (pe_op op_add (pe_op op_modN (pe_callTy call_int1 (by rfl) T.n_int (by decide +kernel) (pa_cons (pv 4) pa_nil)) pe_int) (pe_op op_mul pe_int (pe_ix ix_list (pv 0) pe_int (fun _ _ => rfl))))) pe_int) pa_nil)) (pv 1)))))))), ?body⟩)
  case len => obtain ⟨p, u, n, rfl, _⟩ := h; rfl
  case body =>
    obtain ⟨p, u, n, rfl, ⟨x, y, z, hp, ⟨hx0, hx1⟩, ⟨hy0, hy1⟩, hz0, hz1⟩, hn, hu0, hu1, q⟩ := h
    refine ⟨_, rfl, p, _, _, _, rfl, rfl, SqL.of hp, rfl, _, _, rfl, rfl, _, rfl, ite2 (fun c => ?_) (fun c => ?_)⟩
    · refine ⟨_, rfl, _, _, _, _, rfl, rfl, SqL.of hp, rfl, .inl ⟨_, rfl, _, rfl, _, _, rfl, rfl, (by omega), _, rfl, _, _, _, _, rfl, rfl, SqL.of hp, rfl, _, rfl, _, _, rfl, rfl, ⟨by omega, by omega⟩, _, rfl, _, _, _, _, rfl, rfl, hp, rfl, _, rfl, ?_⟩⟩
      refine q _ _ (Int.fmod_nonneg_of_pos _ (by omega)) (Int.fmod_lt_of_pos _ (by omega)) ⟨by rw [wo_upd]; exact fun _ _ z => z, _, _, _, upd_same, ?_, ⟨hy0, hy1⟩, hz0, by omega⟩
      have e : x.fdiv u = x / u := Int.fdiv_eq_ediv_of_nonneg _ (by omega)
      show 0 ≤ x.fdiv u ∧ x.fdiv u < 10 ^ 300
      rw [e]
      exact ⟨Int.ediv_nonneg hx0 (by omega), Int.lt_of_le_of_lt (Int.ediv_le_self _ hx0) hx1⟩
    · refine ⟨_, rfl, _, _, _, _, rfl, rfl, SqL.of hp, rfl, _, _, rfl, rfl, _, rfl, _, _, _, _, rfl, rfl, hp, rfl, (by show 5 ≤ sizeLine; decide), fun l hl sl => ?_⟩
      have hp1 : upd H p (.lst [V.int x, V.int y, V.int (z + 1)]) p = some (.lst [V.int x, V.int y, V.int (z + 1)]) := upd_same
      replace hl : upd H p (.lst [V.int x, V.int y, V.int (z + 1)]) l = none := hl
      have npl : p ≠ l := ne_of_none hp1 hl
      have hp2 : upd (upd H p (.lst [V.int x, V.int y, V.int (z + 1)])) l (.lst [V.int 2147483647, V.int 2147483629, V.int 2147483587, V.int 2147483579, V.int 2147483563]) p = some (.lst [V.int x, V.int y, V.int (z + 1)]) := by rw [upd_ne npl]; exact hp1
      have hl2 : upd (upd H p (.lst [V.int x, V.int y, V.int (z + 1)])) l (.lst [V.int 2147483647, V.int 2147483629, V.int 2147483587, V.int 2147483579, V.int 2147483563]) l = some (.lst [V.int 2147483647, V.int 2147483629, V.int 2147483587, V.int 2147483579, V.int 2147483563]) := upd_same
      have keep : Same (wo p H) (wo p (upd (upd H p (.lst [V.int x, V.int y, V.int (z + 1)])) l (.lst [V.int 2147483647, V.int 2147483629, V.int 2147483587, V.int 2147483579, V.int 2147483563]))) := by
        intro b o e
        by_cases hb : b = p
        · rw [hb, wo_same] at e; cases e
        · rw [wo_ne hb] at e ⊢
          have : b ≠ l := by
            rintro rfl
            rw [upd_ne hb, e] at hl
            cases hl
          rw [upd_ne this, upd_ne hb]; exact e
      -- which prime
      obtain ⟨j, hj, ej⟩ : ∃ j : Nat, j < 5 ∧ (z + 1).fmod 5 = (j : Int) := ⟨((z + 1).fmod 5).toNat, by have := Int.fmod_lt_of_pos (z + 1) (show (0 : Int) < 5 by decide); have := Int.fmod_nonneg_of_pos (z + 1) (show (0 : Int) < 5 by decide); omega, by have := Int.fmod_nonneg_of_pos (z + 1) (show (0 : Int) < 5 by decide); omega⟩
      obtain ⟨pr, hpr, at5⟩ : ∃ pr : Int, (2147483563 ≤ pr ∧ pr ≤ 2147483647) ∧ [V.int 2147483647, V.int 2147483629, V.int 2147483587, V.int 2147483579, V.int 2147483563][j]? = some (.int pr) := by
        match j, hj with
        | 0, _ => exact ⟨_, ⟨by decide, by decide⟩, rfl⟩
        | 1, _ => exact ⟨_, ⟨by decide, by decide⟩, rfl⟩
        | 2, _ => exact ⟨_, ⟨by decide, by decide⟩, rfl⟩
        | 3, _ => exact ⟨_, ⟨by decide, by decide⟩, rfl⟩
        | 4, _ => exact ⟨_, ⟨by decide, by decide⟩, rfl⟩
      have zz : 0 ≤ (z + 1) * (z + 1) ∧ (z + 1) * (z + 1) ≤ 100001 * 100001 := ⟨Int.mul_nonneg (by omega) (by omega), Int.mul_le_mul (by omega) (by omega) (by omega) (by omega)⟩
      have e9 : 91015 * (z + 1) * (z + 1) = 91015 * ((z + 1) * (z + 1)) := Int.mul_assoc _ _ _
      refine ⟨_, rfl, _, _, _, _, rfl, rfl, SqL.of hp2, rfl, .inl ⟨_, rfl, _, _, rfl, rfl, (by show (_ : Int) ≠ 0; decide), _, _, _, _, rfl, rfl, SqL.of hl2, at_of ej at5, ?_⟩⟩
      refine ⟨_, rfl, _, _, _, _, rfl, rfl, SqL.of hp2, rfl, _, rfl, _, _, _, _, rfl, rfl, SqL.of hp2, rfl, _, _, rfl, rfl, .inl ⟨by decide, by decide⟩, _, rfl, _, _, _, _, rfl, rfl, SqL.of hp2, rfl, _, _, rfl, rfl, .inl ⟨by omega, by omega⟩, _, _, rfl, rfl, _, _, rfl, rfl, .inl ⟨_, rfl, _, _, rfl, rfl, ?pow, .inl ⟨_, rfl, _, rfl, _, _, rfl, rfl, (by omega), ?_⟩⟩⟩
      case pow => exact cpow_of (by rw [e9]; omega) (by rw [e9]; omega)
      generalize (y + 91015 * (z + 1) * (z + 1) + 65) ^ (3 : Int).toNat = bb
      have mb : 0 ≤ bb.fmod pr ∧ bb.fmod pr < pr := ⟨Int.fmod_nonneg_of_pos _ (by omega), Int.fmod_lt_of_pos _ (by omega)⟩
      refine ⟨_, rfl, _, rfl, .inl ⟨_, rfl, _, _, rfl, rfl, (by show (_ : Int) ≠ 0; decide), _, rfl, _, _, _, _, rfl, rfl, SqL.of hp2, rfl, _, _, rfl, rfl, .inl ⟨by decide, by decide⟩, _, _, rfl, rfl, _, _, rfl, rfl, .inl ⟨by omega, by omega⟩, _, _, rfl, rfl, ⟨by decide, by decide⟩, .inl ⟨_, rfl, _, rfl, _, _, rfl, rfl, (by omega), ?_⟩⟩⟩
      exact q _ _ (Int.fmod_nonneg_of_pos _ (by omega)) (Int.fmod_lt_of_pos _ (by omega)) ⟨keep, _, _, _, hp2, ⟨hx0, hx1⟩, ⟨hy0, hy1⟩, by omega, by omega⟩
theorem ok__law_of {fd : FuncData} (F : Fun K "_law_of" "_law_of" s__law_of a._law_of fd) (T : Txt K mg a)
    {fd__law_take : FuncData} (G__law_take : Fn P w K mg base CX0 1 a._law_take fd__law_take ["_law_pot_here", "_law_upto"] spTake) (b__law_take : Binds K fd__law_take ["_law_pot_here", "_law_upto"] []) :
    Fn P w K mg base CX0 2 a._law_of fd ["_law_pot_here", "_law_some"] spOf := by
  refine ok F sc__law_of (fun vs H Q E h => ?len) (fun cdv A outer s H vs Q E hq hr h => ⟨_,
      (pss_one (ps_ret (pe_ix ix_list (pv 1) (pe_fn G__law_take hq (hr.mono (by omega)) (by rfl) T.g__law_take T.k__law_take b__law_take .nil pass0 (pa_cons (pv 0) (pa_cons (pe_callB call_len_seq (by rfl) T.n_len (by decide +kernel) (pa_cons (pv 1) pa_nil)) pa_nil))) (fun _ _ => rfl)))), ?body⟩)
  case len => obtain ⟨p, s, n, xs, rfl, _⟩ := h; rfl
  case body =>
    obtain ⟨p, s, n, xs, rfl, hsp, pot, hn, hs, hne, hz, q⟩ := h
    have h1 : 1 ≤ xs.length := List.length_pos_iff.mpr hne
    refine ⟨_, rfl, _, rfl, _, rfl, _, _, rfl, .inl (SqL.of hs), ?_⟩
    refine ⟨p, _, n, rfl, pot, hn, by omega, by omega, fun d H1 d0 d1 g => ?_⟩
    have hd : d.toNat < xs.length := by omega
    refine ⟨_, _, _, _, rfl, rfl, SqL.of (g.at hs hsp), at_of (j := d.toNat) (by omega) (List.getElem?_eq_getElem hd), ?_⟩
    exact q _ _ (List.getElem_mem hd) g
theorem ok__law_places {fd : FuncData} (F : Fun K "_law_places" "_law_places" s__law_places a._law_places fd) (T : Txt K mg a) :
    Fn P w K mg base CX0 1 a._law_places fd ["_law_script", "_law_most"] (spPlaces K) := by
  refine ok F sc__law_places (fun vs H Q E h => ?len) (fun cdv A outer s H vs Q E hq hr h => ⟨_,
      (pss_one (ps_ret (pe_listRg rfl (by rfl) T.n_list (prg_1 (by rfl) T.n_range (pe_callB (call_max2 rfl) (by rfl) T.n_max (by decide +kernel) (pa_cons pe_int (pa_cons (pe_callB (call_min2 rfl) (by rfl) T.n_min (by decide +kernel) (pa_cons (pv 1) (pa_cons (pe_callB call_len_seq (by rfl) T.n_len (by decide +kernel) (pa_cons (pv 0) pa_nil)) pa_nil))) pa_nil))))))), ?body⟩)
  case len => obtain ⟨s, ns, m, rfl, _⟩ := h; rfl
  case body =>
    obtain ⟨s, ns, m, rfl, hs, hl, hm0, hm1, q⟩ := h
    refine ⟨_, rfl, _, rfl, _, _, rfl, .inl hs, _, _, rfl, _, _, rfl, _, rfl, RgOk.of_le (by decide) (by rw [List.length_map]; split <;> split <;> omega) (by decide) (by split <;> split <;> omega), fun l h1 => ?_⟩
    obtain ⟨k, ek, hk⟩ : ∃ k : Nat, (if (if ((ns.map V.int).length : Int) < m then ((ns.map V.int).length : Int) else m) > 1 then (if ((ns.map V.int).length : Int) < m then ((ns.map V.int).length : Int) else m) else 1) = (k : Int) ∧ (k : Int) ≤ m := by
      refine ⟨_, (Int.toNat_of_nonneg ?_).symm, ?_⟩
      · split <;> split <;> omega
      · rw [Int.toNat_of_nonneg (by split <;> split <;> omega)]
        split <;> split <;> omega
    refine q l k _ h1 (fun b o z => by rw [upd_ne (ne_of_none z h1)]; exact z) hk (Eq.trans upd_same ?_)
    rw [← ek]
end
end My

namespace My
open PySem PySem.Spec PyProof.Rows L2 G
abbrev s_is_integer : Stmt := topS 8
theorem sc_is_integer : FnScope ["value"] ["value"] (defScope s_is_integer) := ⟨rfl, rfl, rfl, by decide +kernel, rfl, by decide +kernel, by decide +kernel⟩

abbrev s_is_number : Stmt := topS 9
theorem sc_is_number : FnScope ["value"] ["value"] (defScope s_is_number) := ⟨rfl, rfl, rfl, by decide +kernel, rfl, by decide +kernel, by decide +kernel⟩

abbrev s_Ratio___init__ : Stmt := inClass (topS 16) 0
theorem sc_Ratio___init__ : FnScope ["self", "number", "under", "common"] ["self", "number", "under"] (defScope s_Ratio___init__) := ⟨rfl, rfl, rfl, by decide +kernel, rfl, by decide +kernel, by decide +kernel⟩

abbrev s_as_ratio : Stmt := topS 10
theorem sc_as_ratio : FnScope ["number"] ["number"] (defScope s_as_ratio) := ⟨rfl, rfl, rfl, by decide +kernel, rfl, by decide +kernel, by decide +kernel⟩

abbrev s_difference : Stmt := topS 11
theorem sc_difference : FnScope ["one", "other"] ["one", "other"] (defScope s_difference) := ⟨rfl, rfl, rfl, by decide +kernel, rfl, by decide +kernel, by decide +kernel⟩

abbrev s_Ratio___add__ : Stmt := inClass (topS 16) 4
theorem sc_Ratio___add__ : FnScope ["self", "other", "more"] ["self", "other"] (defScope s_Ratio___add__) := ⟨rfl, rfl, rfl, by decide +kernel, rfl, by decide +kernel, by decide +kernel⟩

abbrev s_Ratio___radd__ : Stmt := inClass (topS 16) 5
theorem sc_Ratio___radd__ : FnScope ["self", "other"] ["self", "other"] (defScope s_Ratio___radd__) := ⟨rfl, rfl, rfl, by decide +kernel, rfl, by decide +kernel, by decide +kernel⟩

abbrev s_Ratio___sub__ : Stmt := inClass (topS 16) 6
theorem sc_Ratio___sub__ : FnScope ["self", "other", "less"] ["self", "other"] (defScope s_Ratio___sub__) := ⟨rfl, rfl, rfl, by decide +kernel, rfl, by decide +kernel, by decide +kernel⟩

abbrev s_Ratio___rsub__ : Stmt := inClass (topS 16) 7
theorem sc_Ratio___rsub__ : FnScope ["self", "other"] ["self", "other"] (defScope s_Ratio___rsub__) := ⟨rfl, rfl, rfl, by decide +kernel, rfl, by decide +kernel, by decide +kernel⟩

abbrev s_Ratio___mul__ : Stmt := inClass (topS 16) 8
theorem sc_Ratio___mul__ : FnScope ["self", "other", "times"] ["self", "other"] (defScope s_Ratio___mul__) := ⟨rfl, rfl, rfl, by decide +kernel, rfl, by decide +kernel, by decide +kernel⟩

abbrev s_Ratio___rmul__ : Stmt := inClass (topS 16) 9
theorem sc_Ratio___rmul__ : FnScope ["self", "other"] ["self", "other"] (defScope s_Ratio___rmul__) := ⟨rfl, rfl, rfl, by decide +kernel, rfl, by decide +kernel, by decide +kernel⟩

abbrev s_Ratio___neg__ : Stmt := inClass (topS 16) 10
theorem sc_Ratio___neg__ : FnScope ["self"] ["self"] (defScope s_Ratio___neg__) := ⟨rfl, rfl, rfl, by decide +kernel, rfl, by decide +kernel, by decide +kernel⟩

abbrev s_Ratio___abs__ : Stmt := inClass (topS 16) 11
theorem sc_Ratio___abs__ : FnScope ["self"] ["self"] (defScope s_Ratio___abs__) := ⟨rfl, rfl, rfl, by decide +kernel, rfl, by decide +kernel, by decide +kernel⟩

abbrev s_Ratio___lt__ : Stmt := inClass (topS 16) 12
theorem sc_Ratio___lt__ : FnScope ["self", "other"] ["self", "other"] (defScope s_Ratio___lt__) := ⟨rfl, rfl, rfl, by decide +kernel, rfl, by decide +kernel, by decide +kernel⟩

abbrev s_Ratio___le__ : Stmt := inClass (topS 16) 13
theorem sc_Ratio___le__ : FnScope ["self", "other"] ["self", "other"] (defScope s_Ratio___le__) := ⟨rfl, rfl, rfl, by decide +kernel, rfl, by decide +kernel, by decide +kernel⟩

abbrev s_Ratio___gt__ : Stmt := inClass (topS 16) 14
theorem sc_Ratio___gt__ : FnScope ["self", "other"] ["self", "other"] (defScope s_Ratio___gt__) := ⟨rfl, rfl, rfl, by decide +kernel, rfl, by decide +kernel, by decide +kernel⟩

abbrev s_Ratio___ge__ : Stmt := inClass (topS 16) 15
theorem sc_Ratio___ge__ : FnScope ["self", "other"] ["self", "other"] (defScope s_Ratio___ge__) := ⟨rfl, rfl, rfl, by decide +kernel, rfl, by decide +kernel, by decide +kernel⟩

abbrev ratFs (n u : Int) : List (Str × V) := [("number", .int n), ("under", .int u)]
/-- a Ratio -/
def RatAt (C : Addr) (H : Hp) (v : V) (n u : Int) : Prop := ∃ a dx, v = .ref a ∧ H a = some (.ins C dx (ratFs n u))
theorem RatAt.same {C : Addr} {H H' : Hp} {v : V} {n u : Int} (S : Same H H') (h : RatAt C H v n u) : RatAt C H' v n u := let ⟨a, dx, e, h1⟩ := h; ⟨a, dx, e, S _ _ h1⟩
/-- a number: a Ratio or an int -/
def NumAt (C : Addr) (H : Hp) (v : V) (n u : Int) : Prop := (v = .int n ∧ u = 1) ∨ RatAt C H v n u
theorem NumAt.same {C : Addr} {H H' : Hp} {v : V} {n u : Int} (S : Same H H') (h : NumAt C H v n u) : NumAt C H' v n u := h.imp id fun h => h.same S
def Sm (i : Int) : Prop := -(2 ^ 64) < i ∧ i < 2 ^ 64
def CDivZ (_ j : Int) : Prop := j ≠ 0 ∧ j.natAbs.log2 < 9000
theorem op_fdivZ {X : Cx} : OpR X (binaryOp .FloorDiv) (rI CDivZ fun i j => .int (i.fdiv j)) := opI fun _ _ _ _ _ _ _ hc q => floordiv_int hc.1 q (.inl (PyProof.noPylong_of_log2 hc.2))
def spIsInt (K : PySem.W.Frag) : Sp := fun vs H Q _ => ∃ v t b1 b2, vs = [v] ∧ TyX K H v t ∧ PySem.W.kitOne K t (.type "int") = some b1 ∧ PySem.W.kitOne K t (.type "bool") = some b2 ∧ Q (.bl (b1 && !b2)) H
def spIsNum (K : PySem.W.Frag) (C : Addr) : Sp := fun vs H Q _ => ∃ v t b1 b2 b3, vs = [v] ∧ TyX K H v t ∧ PySem.W.kitOne K t (.type "int") = some b1 ∧ PySem.W.kitOne K t (.type "bool") = some b2 ∧ PySem.W.kitOne K t (.ref C) = some b3 ∧ Q (.bl ((b1 && !b2) || b3)) H
def spInit (K : PySem.W.Frag) (C : Addr) : Sp := fun vs H Q _ => ∃ x dx n u, vs = [.ref x, .int n, .int u] ∧ u ≠ 0 ∧ u.natAbs < 2 ^ 200 ∧ H x = some (.ins C dx []) ∧ Q .non (upd H x (.ins C dx (ratFs (rNum n u) (rUnd n u))))
def spAs (K : PySem.W.Frag) (C : Addr) : Sp := fun vs H Q _ => ∃ v n u, vs = [v] ∧ NumAt C H v n u ∧ ∀ w H', Same H H' → RatAt C H' w n u → Q w H'
def spDiff (C : Addr) : Sp := fun vs H Q _ => ∃ v w n u m t, vs = [v, w] ∧ RatAt C H v n u ∧ RatAt C H w m t ∧ Sm n ∧ Sm u ∧ Sm m ∧ Sm t ∧ Q (.int (n * t - m * u)) H
/-- the four operations, of numbers and of what is below -/
structure Op2 where
  num : Int → Int → Int → Int → Int
  und : Int → Int → Int → Int → Int
def fAdd : Op2 := ⟨fun n u m t => n * t + m * u, fun _ u _ t => u * t⟩
def fSub : Op2 := ⟨fun n u m t => n * t - m * u, fun _ u _ t => u * t⟩
def fMul : Op2 := ⟨fun n _ m _ => n * m, fun _ u _ t => u * t⟩
/-- self op other: a new Ratio -/
def spBin (C : Addr) (f : Op2) : Sp := fun vs H Q _ => ∃ v w n u m t, vs = [v, w] ∧ RatAt C H v n u ∧ NumAt C H w m t ∧ Red n u ∧ Red m t ∧ Sm n ∧ Sm u ∧ Sm m ∧ Sm t ∧
  ∀ z H', Same H H' → RatAt C H' z (rNum (f.num n u m t) (f.und n u m t)) (rUnd (f.num n u m t) (f.und n u m t)) → Q z H'
/-- other op self -/
def spBinR (C : Addr) (f : Op2) : Sp := fun vs H Q _ => ∃ v w n u m t, vs = [v, w] ∧ RatAt C H v n u ∧ NumAt C H w m t ∧ Red n u ∧ Red m t ∧ Sm n ∧ Sm u ∧ Sm m ∧ Sm t ∧
  ∀ z H', Same H H' → RatAt C H' z (rNum (f.num m t n u) (f.und m t n u)) (rUnd (f.num m t n u) (f.und m t n u)) → Q z H'
def spUn (C : Addr) (f : Int → Int) : Sp := fun vs H Q _ => ∃ v n u, vs = [v] ∧ RatAt C H v n u ∧ Red n u ∧ Sm u ∧ ∀ z H', Same H H' → RatAt C H' z (f n) u → Q z H'
def fNeg (n : Int) : Int := -n
def fAbs (n : Int) : Int := if n < 0 then -n else n
def spCmp (C : Addr) (c : Int → Bool) : Sp := fun vs H Q _ => ∃ v w n u m t, vs = [v, w] ∧ RatAt C H v n u ∧ NumAt C H w m t ∧ Sm n ∧ Sm u ∧ Sm m ∧ Sm t ∧ ∀ H', Same H H' → Q (.bl (c (n * t - m * u))) H'
def cLt (d : Int) : Bool := decide (d < 0)
def cLe (d : Int) : Bool := decide (d ≤ 0)
def cGt (d : Int) : Bool := decide (0 < d)
def cGe (d : Int) : Bool := decide (0 ≤ d)
theorem numTy {K : PySem.W.Frag} {mg : Str → Option Value} {a : Ad} (T : Txt K mg a) {H : Hp} {v : V} {n u : Int} (h : NumAt a.Ratio H v n u) :
    ∃ ty b1 b2 b3, TyX K H v ty ∧ PySem.W.kitOne K ty (.type "int") = some b1 ∧ PySem.W.kitOne K ty (.type "bool") = some b2 ∧ PySem.W.kitOne K ty (.ref a.Ratio) = some b3 ∧ ((b1 && !b2) || b3) = true := by
  rcases h with ⟨rfl, _⟩ | ⟨x, dx, rfl, e⟩
  · exact ⟨_, true, false, false, .base (.int _), kit_ty (by decide +kernel), kit_ty (by decide +kernel), T.ri.kt _ (by simp), rfl⟩
  · exact ⟨_, false, false, true, .base (.ins e T.cl T.ri.ca T.ri.cn T.ri.ct T.ri.cm), T.ri.ki, T.ri.kb, T.ri.ks, rfl⟩
theorem mulne {u t : Int} (h : 0 < u) (h' : 0 < t) : u * t ≠ 0 := Int.mul_ne_zero (by omega) (by omega)
theorem log_of {u : Int} (h : u.natAbs < 2 ^ 200) : u.natAbs.log2 < 9000 := Nat.lt_of_lt_of_le (PySem.Flt.log2_lt_of (k := 200) (by decide) h) (by decide)
theorem ratTy {K : PySem.W.Frag} {mg : Str → Option Value} {a : Ad} (T : Txt K mg a) {H : Hp} {v : V} {n u : Int} (h : RatAt a.Ratio H v n u) : TyX K H v (.ref a.Ratio) := by
  obtain ⟨x, dx, rfl, e⟩ := h
  exact .base (.ins e T.cl T.ri.ca T.ri.cn T.ri.ct T.ri.cm)
/-- what C(n, u) asks -/
theorem mk_rat {K : PySem.W.Frag} {C : Addr} {H : Hp} {n u : Int} {Q : VK} (h0 : u ≠ 0) (h1 : u.natAbs < 2 ^ 200) (q : ∀ w H', Same H H' → RatAt C H' w (rNum n u) (rUnd n u) → Q w H') :
    ∀ x dx, H x = none → H dx = none → dx ≠ x → spInit K C [.ref x, .int n, .int u] (upd (upd H dx (.own x)) x (.ins C dx [])) (fun v H2 => v = .non ∧ Q (.ref x) H2) E0 := by
  intro x dx hx hdx ne
  refine ⟨x, dx, n, u, rfl, h0, h1, upd_same, rfl, q _ _ (fun b o e => ?_) ⟨x, dx, rfl, upd_same⟩⟩
  rw [upd_ne (ne_of_none e hx), upd_ne (ne_of_none e hx), upd_ne (ne_of_none e hdx)]
  exact e
theorem small200 {u : Int} (h : Sm u) : u.natAbs < 2 ^ 200 := Nat.lt_of_lt_of_le (m := 2 ^ 64) (by obtain ⟨h1, h2⟩ := h; omega) (Nat.pow_le_pow_right (by decide) (by decide))
theorem smul200 {u t : Int} (h : Sm u) (h' : Sm t) : (u * t).natAbs < 2 ^ 200 := by
  refine Nat.lt_of_lt_of_le (m := 2 ^ (64 + 64)) (wide_lt ?_ ?_) (Nat.pow_le_pow_right (by decide) (by decide))
  · obtain ⟨h1, h2⟩ := h; omega
  · obtain ⟨h1, h2⟩ := h'; omega
section
variable {P : Program} {w : World} {K : PySem.W.Frag} {mg : Str → Option Value} {base : Heap} {a : Ad}
theorem ok_is_integer {fd : FuncData} (F : Fun K "is_integer" "is_integer" s_is_integer a.is_integer fd) (T : Txt K mg a) :
    FnOk P w K mg base CX0 1 a.is_integer fd ["value"] (spIsInt K) := by
  refine F.ok sc_is_integer (fun vs H Q E h => ?len) (fun cdv A outer s H vs Q E hr h => ⟨_,
      (pss_one (ps_ret (pe_and (pe_callB call_isi (by rfl) T.n_isinstance (by decide +kernel) (pa_cons (pv 0) (pa_cons (pe_bltn (v := .ty "int") (u := .type "int") (by rfl) T.n_int (by decide +kernel) rfl) pa_nil))) (pe_one (pe_not (pe_callB call_isi (by rfl) T.n_isinstance (by decide +kernel) (pa_cons (pv 0) (pa_cons (pe_bltn (v := .ty "bool") (u := .type "bool") (by rfl) T.n_bool (by decide +kernel) rfl) pa_nil)))))))), ?body⟩)
  case len => obtain ⟨v, t, b1, b2, rfl, _⟩ := h; rfl
  case body =>
    obtain ⟨v, t, b1, b2, rfl, ty, k1, k2, q⟩ := h
    refine ⟨_, rfl, _, _, _, _, b1, rfl, .ty _, ty, k1, b1, rfl, ?_⟩
    cases b1
    · exact iteF q
    · exact iteT ⟨_, rfl, _, _, _, _, b2, rfl, .ty _, ty, k2, b2, rfl, q⟩
theorem ok_is_number {fd : FuncData} (F : Fun K "is_number" "is_number" s_is_number a.is_number fd) (T : Txt K mg a)
    {fd_is_integer : FuncData} (G_is_integer : FnOk P w K mg base CX0 1 a.is_integer fd_is_integer ["value"] (spIsInt K)) (b_is_integer : Binds K fd_is_integer ["value"] []) :
    FnOk P w K mg base CX0 2 a.is_number fd ["value"] (spIsNum K a.Ratio) := by
  refine F.ok sc_is_number (fun vs H Q E h => ?len) (fun cdv A outer s H vs Q E hr h => ⟨_,
      (pss_one (ps_ret (pe_or (pe_call G_is_integer (hr.mono (by omega)) (by rfl) T.g_is_integer T.k_is_integer b_is_integer .nil pass0 (pa_cons (pv 0) pa_nil)) (pe_one (pe_callB call_isi (by rfl) T.n_isinstance (by decide +kernel) (pa_cons (pv 0) (pa_cons (pe_glob (v := .ref a.Ratio) (by rfl) T.g_Ratio rfl) pa_nil))))))), ?body⟩)
  case len => obtain ⟨v, t, b1, b2, b3, rfl, _⟩ := h; rfl
  case body =>
    obtain ⟨v, t, b1, b2, b3, rfl, ty, k1, k2, k3, q⟩ := h
    refine ⟨_, rfl, v, t, b1, b2, rfl, ty, k1, k2, (b1 && !b2), rfl, ?_⟩
    cases hb : (b1 && !b2)
    · rw [hb] at q
      exact iteF ⟨_, rfl, _, _, _, _, b3, rfl, .own _, ty, k3, q⟩
    · rw [hb] at q
      exact iteT q
theorem ok_Ratio___init__ {fd : FuncData} (F : FunD K "__init__" "Ratio.__init__" (defArgs s_Ratio___init__) (defBody s_Ratio___init__) (defScope s_Ratio___init__) [.int 1] [] a.Ratio___init__ fd) (T : Txt K mg a)
    {fd_is_integer : FuncData} (G_is_integer : FnOk P w K mg base CX0 1 a.is_integer fd_is_integer ["value"] (spIsInt K)) (b_is_integer : Binds K fd_is_integer ["value"] []) :
    FnOk P w K mg base CX0 2 a.Ratio___init__ fd ["self", "number", "under"] (spInit K a.Ratio) := by
  refine F.ok sc_Ratio___init__ (fun vs H Q E h => ?len) (fun cdv A outer s H vs Q E hr h => ⟨_,
      (pss_cons (ps_if (PW.pt (pw_or (pt_not (pt_val (pe_call G_is_integer (hr.mono (by omega)) (by rfl) T.g_is_integer T.k_is_integer b_is_integer .nil pass0 (pa_cons (pv 1) pa_nil)))) (pw_or (pt_not (pt_val (pe_call G_is_integer (hr.mono (by omega)) (by rfl) T.g_is_integer T.k_is_integer b_is_integer .nil pass0 (pa_cons (pv 2) pa_nil)))) (pw_or1 (pt_cmpR op_eq (pv 2) pe_int (nomark _)))))) (pss_one ps_never) pss_nil)
      (pss_cons (ps_set (i := 3) sc_Ratio___init__.nd rfl (Or.inl rfl) (pe_ifExp (pt_cmpR op_gt (pv 2) pe_int (nomark _)) (pe_callBfun cr_gcd (by rfl) T.g_gcd (pa_cons (pv 1) (pa_cons (pv 2) pa_nil))) (pe_un un_neg (pe_callBfun cr_gcd (by rfl) T.g_gcd (pa_cons (pv 1) (pa_cons (pv 2) pa_nil))))))
      (pss_cons (ps_fld (pv 0) (pe_op op_fdivZ (pv 1) (pv 3)) rfl)
      (pss_one (ps_fld (pv 0) (pe_op op_fdivZ (pv 2) (pv 3)) rfl))))), ?body⟩)
  case len => obtain ⟨x, dx, n, u, rfl, _⟩ := h; rfl
  case body =>
    obtain ⟨x, dx, n, u, rfl, h0, h1, hx, q⟩ := h
    refine ⟨_, rfl, .int n, .type "int", true, false, rfl, .base (.int _), kit_ty (by decide +kernel), kit_ty (by decide +kernel), _, rfl, iteF ?_⟩
    refine ⟨_, rfl, .int u, .type "int", true, false, rfl, .base (.int _), kit_ty (by decide +kernel), kit_ty (by decide +kernel), _, rfl, iteF ?_⟩
    refine ⟨_, rfl, rfl, _, rfl, ite2 (fun c => ?_) (fun c => ?_)⟩
    · exact absurd (of_decide_eq_true c) (by intro z; injection z with z; exact h0 z)
    have hb : byOf n u ≠ 0 := byOf_ne h0
    have hl : (byOf n u).natAbs.log2 < 9000 := log_of (Nat.lt_of_le_of_lt (byOf_le h0) h1)
    have fin : ∀ g : Int, g = byOf n u → Q .non (upd (upd H x (.ins a.Ratio dx [("number", .int (n.fdiv g))])) x (.ins a.Ratio dx [("number", .int (n.fdiv g)), ("under", .int (u.fdiv g))])) := fun g e => by
      rw [upd_upd, e]
      exact q
    refine ⟨_, rfl, _, _, rfl, rfl, _, rfl, ite2 (fun c2 => ?_) (fun c2 => ?_)⟩
    · have hu : 0 < u := of_decide_eq_true c2
      have e : ((Nat.gcd n.natAbs u.natAbs : Nat) : Int) = byOf n u := by
        unfold byOf
        rw [if_neg (by omega)]
      refine ⟨_, rfl, _, rfl, _, _, rfl, ?_⟩
      refine ⟨_, rfl, _, rfl, _, _, rfl, rfl, ⟨by rw [e]; exact hb, by rw [e]; exact hl⟩, _, rfl, _, _, _, _, rfl, hx, T.cl, T.nN, by decide, ?_⟩
      refine ⟨_, rfl, _, rfl, _, _, rfl, rfl, ⟨by rw [e]; exact hb, by rw [e]; exact hl⟩, _, rfl, _, _, _, _, rfl, upd_same, T.cl, T.nU, (by show 1 < 1000; decide), ?_⟩
      exact fin _ e
    · have hu : ¬ 0 < u := fun z => c2 (decide_eq_true z)
      have e : -((Nat.gcd n.natAbs u.natAbs : Nat) : Int) = byOf n u := by
        unfold byOf
        rw [if_pos (by omega)]
      refine ⟨_, rfl, _, rfl, _, _, rfl, _, rfl, ?_⟩
      refine ⟨_, rfl, _, rfl, _, _, rfl, rfl, ⟨by rw [e]; exact hb, by rw [e]; exact hl⟩, _, rfl, _, _, _, _, rfl, hx, T.cl, T.nN, by decide, ?_⟩
      refine ⟨_, rfl, _, rfl, _, _, rfl, rfl, ⟨by rw [e]; exact hb, by rw [e]; exact hl⟩, _, rfl, _, _, _, _, rfl, upd_same, T.cl, T.nU, (by show 1 < 1000; decide), ?_⟩
      exact fin _ e
theorem ok_as_ratio {fd : FuncData} (F : Fun K "as_ratio" "as_ratio" s_as_ratio a.as_ratio fd) (T : Txt K mg a)
    {fd_Ratio___init__ : FuncData} (G_Ratio___init__ : FnOk P w K mg base CX0 2 a.Ratio___init__ fd_Ratio___init__ ["self", "number", "under"] (spInit K a.Ratio)) (b_Ratio___init__ : Binds K fd_Ratio___init__ ["self", "number", "under"] [])
    {ds_Ratio___init__ : List Value} (d_Ratio___init__ : Vals [.int 1] ds_Ratio___init__ ∧ Binds K fd_Ratio___init__ ["self", "number", "under"] ds_Ratio___init__) :
    FnOk P w K mg base CX0 4 a.as_ratio fd ["number"] (spAs K a.Ratio) := by
  refine F.ok sc_as_ratio (fun vs H Q E h => ?len) (fun cdv A outer s H vs Q E hr h => ⟨_,
      (pss_one (ps_ret (pe_ifExp (pt_val (pe_callB call_isi (by rfl) T.n_isinstance (by decide +kernel) (pa_cons (pv 0) (pa_cons (pe_glob (v := .ref a.Ratio) (by rfl) T.g_Ratio rfl) pa_nil)))) (pv 0) (pe_make T.m_Ratio G_Ratio___init__ (hr.mono (by omega)) (by rfl) T.g_Ratio d_Ratio___init__.2 d_Ratio___init__.1 pass0 (pa_cons (pv 0) pa_nil))))), ?body⟩)
  case len => obtain ⟨v, n, u, rfl, _⟩ := h; rfl
  case body =>
    obtain ⟨v, n, u, rfl, hv, q⟩ := h
    rcases hv with ⟨rfl, rfl⟩ | hv
    · refine ⟨_, rfl, _, _, _, _, false, rfl, .own _, .base (.int _), T.ri.kt _ (by simp), _, rfl, iteF ?_⟩
      refine ⟨_, rfl, mk_rat (by decide) (by decide +kernel) fun w H' S hw => q w H' S ?_⟩
      rw [(red_int n).same.1, (red_int n).same.2] at hw
      exact hw
    · refine ⟨_, rfl, _, _, _, _, true, rfl, .own _, ratTy T hv, T.ri.ks, _, rfl, iteT ?_⟩
      exact ⟨_, rfl, q v H (Same.refl _) hv⟩
theorem ok_difference {fd : FuncData} (F : Fun K "difference" "difference" s_difference a.difference fd) (T : Txt K mg a) :
    FnOk P w K mg base CX0 1 a.difference fd ["one", "other"] (spDiff a.Ratio) := by
  refine F.ok sc_difference (fun vs H Q E h => ?len) (fun cdv A outer s H vs Q E hr h => ⟨_,
      (pss_one (ps_ret (pe_op op_sub (pe_op op_mul (pe_fld (pv 0) rfl) (pe_fld (pv 1) rfl)) (pe_op op_mul (pe_fld (pv 1) rfl) (pe_fld (pv 0) rfl))))), ?body⟩)
  case len => obtain ⟨v, w, n, u, m, t, rfl, _⟩ := h; rfl
  case body =>
    obtain ⟨v, w, n, u, m, t, rfl, ⟨x, dx, rfl, hx⟩, ⟨y, dy, rfl, hy⟩, sn, su, sm, st, q⟩ := h
    refine ⟨_, rfl, _, _, _, _, _, rfl, hx, T.cl, T.nN, rfl, _, rfl, _, _, _, _, _, rfl, hy, T.cl, T.nU, rfl, _, _, rfl, rfl, .inl sn, ?_⟩
    refine ⟨_, rfl, _, _, _, _, _, rfl, hy, T.cl, T.nN, rfl, _, rfl, _, _, _, _, _, rfl, hx, T.cl, T.nU, rfl, _, _, rfl, rfl, .inl sm, ?_⟩
    exact ⟨_, _, rfl, rfl, q⟩
theorem ok_Ratio___add__ {fd : FuncData} (F : Fun K "__add__" "Ratio.__add__" s_Ratio___add__ a.Ratio___add__ fd) (T : Txt K mg a)
    {fd_Ratio___init__ : FuncData} (G_Ratio___init__ : FnOk P w K mg base CX0 2 a.Ratio___init__ fd_Ratio___init__ ["self", "number", "under"] (spInit K a.Ratio)) (b_Ratio___init__ : Binds K fd_Ratio___init__ ["self", "number", "under"] [])
    {ds_Ratio___init__ : List Value} (d_Ratio___init__ : Vals [.int 1] ds_Ratio___init__ ∧ Binds K fd_Ratio___init__ ["self", "number", "under"] ds_Ratio___init__)
    {fd_as_ratio : FuncData} (G_as_ratio : FnOk P w K mg base CX0 4 a.as_ratio fd_as_ratio ["number"] (spAs K a.Ratio)) (b_as_ratio : Binds K fd_as_ratio ["number"] [])
    {fd_is_number : FuncData} (G_is_number : FnOk P w K mg base CX0 2 a.is_number fd_is_number ["value"] (spIsNum K a.Ratio)) (b_is_number : Binds K fd_is_number ["value"] []) :
    FnOk P w K mg base CX0 5 a.Ratio___add__ fd ["self", "other"] (spBin a.Ratio fAdd) := by
  refine F.ok sc_Ratio___add__ (fun vs H Q E h => ?len) (fun cdv A outer s H vs Q E hr h => ⟨_,
      (pss_cons (ps_if (pt_not (pt_val (pe_call G_is_number (hr.mono (by omega)) (by rfl) T.g_is_number T.k_is_number b_is_number .nil pass0 (pa_cons (pv 1) pa_nil)))) (pss_one ps_never) pss_nil)
      (pss_cons (ps_set (i := 2) sc_Ratio___add__.nd rfl (Or.inl rfl) (pe_call G_as_ratio (hr.mono (by omega)) (by rfl) T.g_as_ratio T.k_as_ratio b_as_ratio .nil pass0 (pa_cons (pv 1) pa_nil)))
      (pss_one (ps_ret (pe_make T.m_Ratio G_Ratio___init__ (hr.mono (by omega)) (by rfl) T.g_Ratio b_Ratio___init__ .nil pass0 (pa_cons (pe_op op_add (pe_op op_mul (pe_fld (pv 0) rfl) (pe_fld (pv 2) rfl)) (pe_op op_mul (pe_fld (pv 2) rfl) (pe_fld (pv 0) rfl))) (pa_cons (pe_op op_mul (pe_fld (pv 0) rfl) (pe_fld (pv 2) rfl)) pa_nil))))))), ?body⟩)
  case len => obtain ⟨v, w, n, u, m, t, rfl, _⟩ := h; rfl
  case body =>
    obtain ⟨v, w, n, u, m, t, rfl, hv, hw, rn, rm, sn, su, sm, st, q⟩ := h
    obtain ⟨ty, b1, b2, b3, t1, k1, k2, k3, e⟩ := numTy T hw
    refine ⟨_, rfl, w, ty, b1, b2, b3, rfl, t1, k1, k2, k3, _, rfl, ?_⟩
    rw [e]
    refine iteF ?_
    refine ⟨_, rfl, w, m, t, rfl, hw, fun r H1 S1 hr1 => ?_⟩
    obtain ⟨x, dx, rfl, hx⟩ := hv.same S1
    obtain ⟨y, dy, rfl, hy⟩ := hr1
    refine ⟨_, rfl, _, _, _, _, _, rfl, hx, T.cl, T.nN, rfl, _, rfl, _, _, _, _, _, rfl, hy, T.cl, T.nU, rfl, _, _, rfl, rfl, .inl sn, ?_⟩
    refine ⟨_, rfl, _, _, _, _, _, rfl, hy, T.cl, T.nN, rfl, _, rfl, _, _, _, _, _, rfl, hx, T.cl, T.nU, rfl, _, _, rfl, rfl, .inl sm, _, _, rfl, rfl, ?_⟩
    refine ⟨_, rfl, _, _, _, _, _, rfl, hx, T.cl, T.nU, rfl, _, rfl, _, _, _, _, _, rfl, hy, T.cl, T.nU, rfl, _, _, rfl, rfl, .inl su, ?_⟩
    exact mk_rat (mulne rn.pos rm.pos) (smul200 su st) fun z H' S hz => q z H' (S1.trans S) hz
theorem ok_Ratio___radd__ {fd : FuncData} (F : Fun K "__radd__" "Ratio.__radd__" s_Ratio___radd__ a.Ratio___radd__ fd) (T : Txt K mg a)
    {fd_Ratio___add__ : FuncData} (G_Ratio___add__ : FnOk P w K mg base CX0 5 a.Ratio___add__ fd_Ratio___add__ ["self", "other"] (spBin a.Ratio fAdd)) (b_Ratio___add__ : Binds K fd_Ratio___add__ ["self", "other"] [])
    {fd_as_ratio : FuncData} (G_as_ratio : FnOk P w K mg base CX0 4 a.as_ratio fd_as_ratio ["number"] (spAs K a.Ratio)) (b_as_ratio : Binds K fd_as_ratio ["number"] [])
    {fd_is_number : FuncData} (G_is_number : FnOk P w K mg base CX0 2 a.is_number fd_is_number ["value"] (spIsNum K a.Ratio)) (b_is_number : Binds K fd_is_number ["value"] []) :
    FnOk P w K mg base CX0 6 a.Ratio___radd__ fd ["self", "other"] (spBinR a.Ratio fAdd) := by
  refine F.ok sc_Ratio___radd__ (fun vs H Q E h => ?len) (fun cdv A outer s H vs Q E hr h => ⟨_,
      (pss_cons (ps_if (pt_not (pt_val (pe_call G_is_number (hr.mono (by omega)) (by rfl) T.g_is_number T.k_is_number b_is_number .nil pass0 (pa_cons (pv 1) pa_nil)))) (pss_one ps_never) pss_nil)
      (pss_one (ps_ret (pe_op (op_binK T.o_add (fnR G_Ratio___add__ b_Ratio___add__) (hr.mono (by omega)) pass0) (pe_call G_as_ratio (hr.mono (by omega)) (by rfl) T.g_as_ratio T.k_as_ratio b_as_ratio .nil pass0 (pa_cons (pv 1) pa_nil)) (pv 0))))), ?body⟩)
  case len => obtain ⟨v, w, n, u, m, t, rfl, _⟩ := h; rfl
  case body =>
    obtain ⟨v, w, n, u, m, t, rfl, hv, hw, rn, rm, sn, su, sm, st, q⟩ := h
    obtain ⟨ty, b1, b2, b3, t1, k1, k2, k3, e⟩ := numTy T hw
    refine ⟨_, rfl, w, ty, b1, b2, b3, rfl, t1, k1, k2, k3, _, rfl, ?_⟩
    rw [e]
    refine iteF ?_
    refine ⟨_, rfl, w, m, t, rfl, hw, fun r H1 S1 hr1 => ?_⟩
    obtain ⟨x, dx, rfl, hx⟩ := hv.same S1
    obtain ⟨y, dy, rfl, hy⟩ := hr1
    refine ⟨_, rfl, y, x, _, _, _, _, rfl, rfl, hy, hx, ?_⟩
    exact ⟨_, _, m, t, n, u, rfl, ⟨y, dy, rfl, hy⟩, .inr ⟨x, dx, rfl, hx⟩, rm, rn, sm, st, sn, su, fun z H' S hz => q z H' (S1.trans S) hz⟩
theorem ok_Ratio___sub__ {fd : FuncData} (F : Fun K "__sub__" "Ratio.__sub__" s_Ratio___sub__ a.Ratio___sub__ fd) (T : Txt K mg a)
    {fd_Ratio___init__ : FuncData} (G_Ratio___init__ : FnOk P w K mg base CX0 2 a.Ratio___init__ fd_Ratio___init__ ["self", "number", "under"] (spInit K a.Ratio)) (b_Ratio___init__ : Binds K fd_Ratio___init__ ["self", "number", "under"] [])
    {ds_Ratio___init__ : List Value} (d_Ratio___init__ : Vals [.int 1] ds_Ratio___init__ ∧ Binds K fd_Ratio___init__ ["self", "number", "under"] ds_Ratio___init__)
    {fd_difference : FuncData} (G_difference : FnOk P w K mg base CX0 1 a.difference fd_difference ["one", "other"] (spDiff a.Ratio)) (b_difference : Binds K fd_difference ["one", "other"] [])
    {fd_as_ratio : FuncData} (G_as_ratio : FnOk P w K mg base CX0 4 a.as_ratio fd_as_ratio ["number"] (spAs K a.Ratio)) (b_as_ratio : Binds K fd_as_ratio ["number"] [])
    {fd_is_number : FuncData} (G_is_number : FnOk P w K mg base CX0 2 a.is_number fd_is_number ["value"] (spIsNum K a.Ratio)) (b_is_number : Binds K fd_is_number ["value"] []) :
    FnOk P w K mg base CX0 5 a.Ratio___sub__ fd ["self", "other"] (spBin a.Ratio fSub) := by
  refine F.ok sc_Ratio___sub__ (fun vs H Q E h => ?len) (fun cdv A outer s H vs Q E hr h => ⟨_,
      (pss_cons (ps_if (pt_not (pt_val (pe_call G_is_number (hr.mono (by omega)) (by rfl) T.g_is_number T.k_is_number b_is_number .nil pass0 (pa_cons (pv 1) pa_nil)))) (pss_one ps_never) pss_nil)
      (pss_cons (ps_set (i := 2) sc_Ratio___sub__.nd rfl (Or.inl rfl) (pe_call G_as_ratio (hr.mono (by omega)) (by rfl) T.g_as_ratio T.k_as_ratio b_as_ratio .nil pass0 (pa_cons (pv 1) pa_nil)))
      (pss_one (ps_ret (pe_make T.m_Ratio G_Ratio___init__ (hr.mono (by omega)) (by rfl) T.g_Ratio b_Ratio___init__ .nil pass0 (pa_cons (pe_call G_difference (hr.mono (by omega)) (by rfl) T.g_difference T.k_difference b_difference .nil pass0 (pa_cons (pv 0) (pa_cons (pv 2) pa_nil))) (pa_cons (pe_op op_mul (pe_fld (pv 0) rfl) (pe_fld (pv 2) rfl)) pa_nil))))))), ?body⟩)
  case len => obtain ⟨v, w, n, u, m, t, rfl, _⟩ := h; rfl
  case body =>
    obtain ⟨v, w, n, u, m, t, rfl, hv, hw, rn, rm, sn, su, sm, st, q⟩ := h
    obtain ⟨ty, b1, b2, b3, t1, k1, k2, k3, e⟩ := numTy T hw
    refine ⟨_, rfl, w, ty, b1, b2, b3, rfl, t1, k1, k2, k3, _, rfl, ?_⟩
    rw [e]
    refine iteF ?_
    refine ⟨_, rfl, w, m, t, rfl, hw, fun r H1 S1 hr1 => ?_⟩
    obtain ⟨x, dx, rfl, hx⟩ := hv.same S1
    obtain ⟨y, dy, rfl, hy⟩ := hr1
    refine ⟨_, rfl, _, rfl, _, _, n, u, m, t, rfl, ⟨x, dx, rfl, hx⟩, ⟨y, dy, rfl, hy⟩, sn, su, sm, st, ?_⟩
    refine ⟨_, rfl, _, _, _, _, _, rfl, hx, T.cl, T.nU, rfl, _, rfl, _, _, _, _, _, rfl, hy, T.cl, T.nU, rfl, _, _, rfl, rfl, .inl su, ?_⟩
    exact mk_rat (mulne rn.pos rm.pos) (smul200 su st) fun z H' S hz => q z H' (S1.trans S) hz
theorem ok_Ratio___rsub__ {fd : FuncData} (F : Fun K "__rsub__" "Ratio.__rsub__" s_Ratio___rsub__ a.Ratio___rsub__ fd) (T : Txt K mg a)
    {fd_Ratio___sub__ : FuncData} (G_Ratio___sub__ : FnOk P w K mg base CX0 5 a.Ratio___sub__ fd_Ratio___sub__ ["self", "other"] (spBin a.Ratio fSub)) (b_Ratio___sub__ : Binds K fd_Ratio___sub__ ["self", "other"] [])
    {fd_as_ratio : FuncData} (G_as_ratio : FnOk P w K mg base CX0 4 a.as_ratio fd_as_ratio ["number"] (spAs K a.Ratio)) (b_as_ratio : Binds K fd_as_ratio ["number"] [])
    {fd_is_number : FuncData} (G_is_number : FnOk P w K mg base CX0 2 a.is_number fd_is_number ["value"] (spIsNum K a.Ratio)) (b_is_number : Binds K fd_is_number ["value"] []) :
    FnOk P w K mg base CX0 6 a.Ratio___rsub__ fd ["self", "other"] (spBinR a.Ratio fSub) := by
  refine F.ok sc_Ratio___rsub__ (fun vs H Q E h => ?len) (fun cdv A outer s H vs Q E hr h => ⟨_,
      (pss_cons (ps_if (pt_not (pt_val (pe_call G_is_number (hr.mono (by omega)) (by rfl) T.g_is_number T.k_is_number b_is_number .nil pass0 (pa_cons (pv 1) pa_nil)))) (pss_one ps_never) pss_nil)
      (pss_one (ps_ret (pe_op (op_binK T.o_sub (fnR G_Ratio___sub__ b_Ratio___sub__) (hr.mono (by omega)) pass0) (pe_call G_as_ratio (hr.mono (by omega)) (by rfl) T.g_as_ratio T.k_as_ratio b_as_ratio .nil pass0 (pa_cons (pv 1) pa_nil)) (pv 0))))), ?body⟩)
  case len => obtain ⟨v, w, n, u, m, t, rfl, _⟩ := h; rfl
  case body =>
    obtain ⟨v, w, n, u, m, t, rfl, hv, hw, rn, rm, sn, su, sm, st, q⟩ := h
    obtain ⟨ty, b1, b2, b3, t1, k1, k2, k3, e⟩ := numTy T hw
    refine ⟨_, rfl, w, ty, b1, b2, b3, rfl, t1, k1, k2, k3, _, rfl, ?_⟩
    rw [e]
    refine iteF ?_
    refine ⟨_, rfl, w, m, t, rfl, hw, fun r H1 S1 hr1 => ?_⟩
    obtain ⟨x, dx, rfl, hx⟩ := hv.same S1
    obtain ⟨y, dy, rfl, hy⟩ := hr1
    refine ⟨_, rfl, y, x, _, _, _, _, rfl, rfl, hy, hx, ?_⟩
    exact ⟨_, _, m, t, n, u, rfl, ⟨y, dy, rfl, hy⟩, .inr ⟨x, dx, rfl, hx⟩, rm, rn, sm, st, sn, su, fun z H' S hz => q z H' (S1.trans S) hz⟩
theorem ok_Ratio___mul__ {fd : FuncData} (F : Fun K "__mul__" "Ratio.__mul__" s_Ratio___mul__ a.Ratio___mul__ fd) (T : Txt K mg a)
    {fd_Ratio___init__ : FuncData} (G_Ratio___init__ : FnOk P w K mg base CX0 2 a.Ratio___init__ fd_Ratio___init__ ["self", "number", "under"] (spInit K a.Ratio)) (b_Ratio___init__ : Binds K fd_Ratio___init__ ["self", "number", "under"] [])
    {ds_Ratio___init__ : List Value} (d_Ratio___init__ : Vals [.int 1] ds_Ratio___init__ ∧ Binds K fd_Ratio___init__ ["self", "number", "under"] ds_Ratio___init__)
    {fd_as_ratio : FuncData} (G_as_ratio : FnOk P w K mg base CX0 4 a.as_ratio fd_as_ratio ["number"] (spAs K a.Ratio)) (b_as_ratio : Binds K fd_as_ratio ["number"] [])
    {fd_is_number : FuncData} (G_is_number : FnOk P w K mg base CX0 2 a.is_number fd_is_number ["value"] (spIsNum K a.Ratio)) (b_is_number : Binds K fd_is_number ["value"] []) :
    FnOk P w K mg base CX0 5 a.Ratio___mul__ fd ["self", "other"] (spBin a.Ratio fMul) := by
  refine F.ok sc_Ratio___mul__ (fun vs H Q E h => ?len) (fun cdv A outer s H vs Q E hr h => ⟨_,
      (pss_cons (ps_if (pt_not (pt_val (pe_call G_is_number (hr.mono (by omega)) (by rfl) T.g_is_number T.k_is_number b_is_number .nil pass0 (pa_cons (pv 1) pa_nil)))) (pss_one ps_never) pss_nil)
      (pss_cons (ps_set (i := 2) sc_Ratio___mul__.nd rfl (Or.inl rfl) (pe_call G_as_ratio (hr.mono (by omega)) (by rfl) T.g_as_ratio T.k_as_ratio b_as_ratio .nil pass0 (pa_cons (pv 1) pa_nil)))
      (pss_one (ps_ret (pe_make T.m_Ratio G_Ratio___init__ (hr.mono (by omega)) (by rfl) T.g_Ratio b_Ratio___init__ .nil pass0 (pa_cons (pe_op op_mul (pe_fld (pv 0) rfl) (pe_fld (pv 2) rfl)) (pa_cons (pe_op op_mul (pe_fld (pv 0) rfl) (pe_fld (pv 2) rfl)) pa_nil))))))), ?body⟩)
  case len => obtain ⟨v, w, n, u, m, t, rfl, _⟩ := h; rfl
  case body =>
    obtain ⟨v, w, n, u, m, t, rfl, hv, hw, rn, rm, sn, su, sm, st, q⟩ := h
    obtain ⟨ty, b1, b2, b3, t1, k1, k2, k3, e⟩ := numTy T hw
    refine ⟨_, rfl, w, ty, b1, b2, b3, rfl, t1, k1, k2, k3, _, rfl, ?_⟩
    rw [e]
    refine iteF ?_
    refine ⟨_, rfl, w, m, t, rfl, hw, fun r H1 S1 hr1 => ?_⟩
    obtain ⟨x, dx, rfl, hx⟩ := hv.same S1
    obtain ⟨y, dy, rfl, hy⟩ := hr1
    refine ⟨_, rfl, _, _, _, _, _, rfl, hx, T.cl, T.nN, rfl, _, rfl, _, _, _, _, _, rfl, hy, T.cl, T.nN, rfl, _, _, rfl, rfl, .inl sn, ?_⟩
    refine ⟨_, rfl, _, _, _, _, _, rfl, hx, T.cl, T.nU, rfl, _, rfl, _, _, _, _, _, rfl, hy, T.cl, T.nU, rfl, _, _, rfl, rfl, .inl su, ?_⟩
    exact mk_rat (mulne rn.pos rm.pos) (smul200 su st) fun z H' S hz => q z H' (S1.trans S) hz
theorem ok_Ratio___rmul__ {fd : FuncData} (F : Fun K "__rmul__" "Ratio.__rmul__" s_Ratio___rmul__ a.Ratio___rmul__ fd) (T : Txt K mg a)
    {fd_Ratio___mul__ : FuncData} (G_Ratio___mul__ : FnOk P w K mg base CX0 5 a.Ratio___mul__ fd_Ratio___mul__ ["self", "other"] (spBin a.Ratio fMul)) (b_Ratio___mul__ : Binds K fd_Ratio___mul__ ["self", "other"] [])
    {fd_as_ratio : FuncData} (G_as_ratio : FnOk P w K mg base CX0 4 a.as_ratio fd_as_ratio ["number"] (spAs K a.Ratio)) (b_as_ratio : Binds K fd_as_ratio ["number"] [])
    {fd_is_number : FuncData} (G_is_number : FnOk P w K mg base CX0 2 a.is_number fd_is_number ["value"] (spIsNum K a.Ratio)) (b_is_number : Binds K fd_is_number ["value"] []) :
    FnOk P w K mg base CX0 6 a.Ratio___rmul__ fd ["self", "other"] (spBinR a.Ratio fMul) := by
  refine F.ok sc_Ratio___rmul__ (fun vs H Q E h => ?len) (fun cdv A outer s H vs Q E hr h => ⟨_,
      (pss_cons (ps_if (pt_not (pt_val (pe_call G_is_number (hr.mono (by omega)) (by rfl) T.g_is_number T.k_is_number b_is_number .nil pass0 (pa_cons (pv 1) pa_nil)))) (pss_one ps_never) pss_nil)
      (pss_one (ps_ret (pe_op (op_binK T.o_mul (fnR G_Ratio___mul__ b_Ratio___mul__) (hr.mono (by omega)) pass0) (pe_call G_as_ratio (hr.mono (by omega)) (by rfl) T.g_as_ratio T.k_as_ratio b_as_ratio .nil pass0 (pa_cons (pv 1) pa_nil)) (pv 0))))), ?body⟩)
  case len => obtain ⟨v, w, n, u, m, t, rfl, _⟩ := h; rfl
  case body =>
    obtain ⟨v, w, n, u, m, t, rfl, hv, hw, rn, rm, sn, su, sm, st, q⟩ := h
    obtain ⟨ty, b1, b2, b3, t1, k1, k2, k3, e⟩ := numTy T hw
    refine ⟨_, rfl, w, ty, b1, b2, b3, rfl, t1, k1, k2, k3, _, rfl, ?_⟩
    rw [e]
    refine iteF ?_
    refine ⟨_, rfl, w, m, t, rfl, hw, fun r H1 S1 hr1 => ?_⟩
    obtain ⟨x, dx, rfl, hx⟩ := hv.same S1
    obtain ⟨y, dy, rfl, hy⟩ := hr1
    refine ⟨_, rfl, y, x, _, _, _, _, rfl, rfl, hy, hx, ?_⟩
    exact ⟨_, _, m, t, n, u, rfl, ⟨y, dy, rfl, hy⟩, .inr ⟨x, dx, rfl, hx⟩, rm, rn, sm, st, sn, su, fun z H' S hz => q z H' (S1.trans S) hz⟩
theorem ok_Ratio___neg__ {fd : FuncData} (F : Fun K "__neg__" "Ratio.__neg__" s_Ratio___neg__ a.Ratio___neg__ fd) (T : Txt K mg a)
    {fd_Ratio___init__ : FuncData} (G_Ratio___init__ : FnOk P w K mg base CX0 2 a.Ratio___init__ fd_Ratio___init__ ["self", "number", "under"] (spInit K a.Ratio)) (b_Ratio___init__ : Binds K fd_Ratio___init__ ["self", "number", "under"] [])
    {ds_Ratio___init__ : List Value} (d_Ratio___init__ : Vals [.int 1] ds_Ratio___init__ ∧ Binds K fd_Ratio___init__ ["self", "number", "under"] ds_Ratio___init__) :
    FnOk P w K mg base CX0 4 a.Ratio___neg__ fd ["self"] (spUn a.Ratio fNeg) := by
  refine F.ok sc_Ratio___neg__ (fun vs H Q E h => ?len) (fun cdv A outer s H vs Q E hr h => ⟨_,
      (pss_one (ps_ret (pe_make T.m_Ratio G_Ratio___init__ (hr.mono (by omega)) (by rfl) T.g_Ratio b_Ratio___init__ .nil pass0 (pa_cons (pe_un un_neg (pe_fld (pv 0) rfl)) (pa_cons (pe_fld (pv 0) rfl) pa_nil))))), ?body⟩)
  case len => obtain ⟨v, n, u, rfl, _⟩ := h; rfl
  case body =>
    obtain ⟨v, n, u, rfl, ⟨x, dx, rfl, hx⟩, rn, su, q⟩ := h
    refine ⟨_, rfl, _, _, _, _, _, rfl, hx, T.cl, T.nN, rfl, _, rfl, _, rfl, _, _, _, _, _, rfl, hx, T.cl, T.nU, rfl, ?_⟩
    refine mk_rat (by have := rn.pos; omega) (small200 su) fun z H' S hz => q z H' S ?_
    have e := rn.neg.same
    rw [e.1, e.2] at hz
    exact hz
theorem ok_Ratio___abs__ {fd : FuncData} (F : Fun K "__abs__" "Ratio.__abs__" s_Ratio___abs__ a.Ratio___abs__ fd) (T : Txt K mg a)
    {fd_Ratio___init__ : FuncData} (G_Ratio___init__ : FnOk P w K mg base CX0 2 a.Ratio___init__ fd_Ratio___init__ ["self", "number", "under"] (spInit K a.Ratio)) (b_Ratio___init__ : Binds K fd_Ratio___init__ ["self", "number", "under"] [])
    {ds_Ratio___init__ : List Value} (d_Ratio___init__ : Vals [.int 1] ds_Ratio___init__ ∧ Binds K fd_Ratio___init__ ["self", "number", "under"] ds_Ratio___init__) :
    FnOk P w K mg base CX0 4 a.Ratio___abs__ fd ["self"] (spUn a.Ratio fAbs) := by
  refine F.ok sc_Ratio___abs__ (fun vs H Q E h => ?len) (fun cdv A outer s H vs Q E hr h => ⟨_,
      (pss_one (ps_ret (pe_make T.m_Ratio G_Ratio___init__ (hr.mono (by omega)) (by rfl) T.g_Ratio b_Ratio___init__ .nil pass0 (pa_cons (pe_callB call_abs (by rfl) T.n_abs (by decide +kernel) (pa_cons (pe_fld (pv 0) rfl) pa_nil)) (pa_cons (pe_fld (pv 0) rfl) pa_nil))))), ?body⟩)
  case len => obtain ⟨v, n, u, rfl, _⟩ := h; rfl
  case body =>
    obtain ⟨v, n, u, rfl, ⟨x, dx, rfl, hx⟩, rn, su, q⟩ := h
    refine ⟨_, rfl, _, _, _, _, _, rfl, hx, T.cl, T.nN, rfl, _, rfl, _, rfl, _, _, _, _, _, rfl, hx, T.cl, T.nU, rfl, ?_⟩
    refine mk_rat (by have := rn.pos; omega) (small200 su) fun z H' S hz => q z H' S ?_
    have e := rn.abs.same
    rw [e.1, e.2] at hz
    exact hz
theorem ok_Ratio___lt__ {fd : FuncData} (F : Fun K "__lt__" "Ratio.__lt__" s_Ratio___lt__ a.Ratio___lt__ fd) (T : Txt K mg a)
    {fd_difference : FuncData} (G_difference : FnOk P w K mg base CX0 1 a.difference fd_difference ["one", "other"] (spDiff a.Ratio)) (b_difference : Binds K fd_difference ["one", "other"] [])
    {fd_as_ratio : FuncData} (G_as_ratio : FnOk P w K mg base CX0 4 a.as_ratio fd_as_ratio ["number"] (spAs K a.Ratio)) (b_as_ratio : Binds K fd_as_ratio ["number"] [])
    {fd_is_number : FuncData} (G_is_number : FnOk P w K mg base CX0 2 a.is_number fd_is_number ["value"] (spIsNum K a.Ratio)) (b_is_number : Binds K fd_is_number ["value"] []) :
    FnOk P w K mg base CX0 5 a.Ratio___lt__ fd ["self", "other"] (spCmp a.Ratio cLt) := by
  refine F.ok sc_Ratio___lt__ (fun vs H Q E h => ?len) (fun cdv A outer s H vs Q E hr h => ⟨_,
      (pss_cons (ps_if (pt_not (pt_val (pe_call G_is_number (hr.mono (by omega)) (by rfl) T.g_is_number T.k_is_number b_is_number .nil pass0 (pa_cons (pv 1) pa_nil)))) (pss_one ps_never) pss_nil)
      (pss_one (ps_ret (pe_cmpR op_lt (pe_call G_difference (hr.mono (by omega)) (by rfl) T.g_difference T.k_difference b_difference .nil pass0 (pa_cons (pv 0) (pa_cons (pe_call G_as_ratio (hr.mono (by omega)) (by rfl) T.g_as_ratio T.k_as_ratio b_as_ratio .nil pass0 (pa_cons (pv 1) pa_nil)) pa_nil))) pe_int (nomark _))))), ?body⟩)
  case len => obtain ⟨v, w, n, u, m, t, rfl, _⟩ := h; rfl
  case body =>
    obtain ⟨v, w, n, u, m, t, rfl, hv, hw, sn, su, sm, st, q⟩ := h
    obtain ⟨ty, b1, b2, b3, t1, k1, k2, k3, e⟩ := numTy T hw
    refine ⟨_, rfl, w, ty, b1, b2, b3, rfl, t1, k1, k2, k3, _, rfl, ?_⟩
    rw [e]
    refine iteF ?_
    refine ⟨_, rfl, _, rfl, w, m, t, rfl, hw, fun r H1 S1 hr1 => ?_⟩
    exact ⟨_, _, n, u, m, t, rfl, hv.same S1, hr1, sn, su, sm, st, _, _, rfl, rfl, q H1 S1⟩
theorem ok_Ratio___le__ {fd : FuncData} (F : Fun K "__le__" "Ratio.__le__" s_Ratio___le__ a.Ratio___le__ fd) (T : Txt K mg a)
    {fd_difference : FuncData} (G_difference : FnOk P w K mg base CX0 1 a.difference fd_difference ["one", "other"] (spDiff a.Ratio)) (b_difference : Binds K fd_difference ["one", "other"] [])
    {fd_as_ratio : FuncData} (G_as_ratio : FnOk P w K mg base CX0 4 a.as_ratio fd_as_ratio ["number"] (spAs K a.Ratio)) (b_as_ratio : Binds K fd_as_ratio ["number"] [])
    {fd_is_number : FuncData} (G_is_number : FnOk P w K mg base CX0 2 a.is_number fd_is_number ["value"] (spIsNum K a.Ratio)) (b_is_number : Binds K fd_is_number ["value"] []) :
    FnOk P w K mg base CX0 5 a.Ratio___le__ fd ["self", "other"] (spCmp a.Ratio cLe) := by
  refine F.ok sc_Ratio___le__ (fun vs H Q E h => ?len) (fun cdv A outer s H vs Q E hr h => ⟨_,
      (pss_cons (ps_if (pt_not (pt_val (pe_call G_is_number (hr.mono (by omega)) (by rfl) T.g_is_number T.k_is_number b_is_number .nil pass0 (pa_cons (pv 1) pa_nil)))) (pss_one ps_never) pss_nil)
      (pss_one (ps_ret (pe_cmpR op_le (pe_call G_difference (hr.mono (by omega)) (by rfl) T.g_difference T.k_difference b_difference .nil pass0 (pa_cons (pv 0) (pa_cons (pe_call G_as_ratio (hr.mono (by omega)) (by rfl) T.g_as_ratio T.k_as_ratio b_as_ratio .nil pass0 (pa_cons (pv 1) pa_nil)) pa_nil))) pe_int (nomark _))))), ?body⟩)
  case len => obtain ⟨v, w, n, u, m, t, rfl, _⟩ := h; rfl
  case body =>
    obtain ⟨v, w, n, u, m, t, rfl, hv, hw, sn, su, sm, st, q⟩ := h
    obtain ⟨ty, b1, b2, b3, t1, k1, k2, k3, e⟩ := numTy T hw
    refine ⟨_, rfl, w, ty, b1, b2, b3, rfl, t1, k1, k2, k3, _, rfl, ?_⟩
    rw [e]
    refine iteF ?_
    refine ⟨_, rfl, _, rfl, w, m, t, rfl, hw, fun r H1 S1 hr1 => ?_⟩
    exact ⟨_, _, n, u, m, t, rfl, hv.same S1, hr1, sn, su, sm, st, _, _, rfl, rfl, q H1 S1⟩
theorem ok_Ratio___gt__ {fd : FuncData} (F : Fun K "__gt__" "Ratio.__gt__" s_Ratio___gt__ a.Ratio___gt__ fd) (T : Txt K mg a)
    {fd_difference : FuncData} (G_difference : FnOk P w K mg base CX0 1 a.difference fd_difference ["one", "other"] (spDiff a.Ratio)) (b_difference : Binds K fd_difference ["one", "other"] [])
    {fd_as_ratio : FuncData} (G_as_ratio : FnOk P w K mg base CX0 4 a.as_ratio fd_as_ratio ["number"] (spAs K a.Ratio)) (b_as_ratio : Binds K fd_as_ratio ["number"] [])
    {fd_is_number : FuncData} (G_is_number : FnOk P w K mg base CX0 2 a.is_number fd_is_number ["value"] (spIsNum K a.Ratio)) (b_is_number : Binds K fd_is_number ["value"] []) :
    FnOk P w K mg base CX0 5 a.Ratio___gt__ fd ["self", "other"] (spCmp a.Ratio cGt) := by
  refine F.ok sc_Ratio___gt__ (fun vs H Q E h => ?len) (fun cdv A outer s H vs Q E hr h => ⟨_,
      (pss_cons (ps_if (pt_not (pt_val (pe_call G_is_number (hr.mono (by omega)) (by rfl) T.g_is_number T.k_is_number b_is_number .nil pass0 (pa_cons (pv 1) pa_nil)))) (pss_one ps_never) pss_nil)
      (pss_one (ps_ret (pe_cmpR op_gt (pe_call G_difference (hr.mono (by omega)) (by rfl) T.g_difference T.k_difference b_difference .nil pass0 (pa_cons (pv 0) (pa_cons (pe_call G_as_ratio (hr.mono (by omega)) (by rfl) T.g_as_ratio T.k_as_ratio b_as_ratio .nil pass0 (pa_cons (pv 1) pa_nil)) pa_nil))) pe_int (nomark _))))), ?body⟩)
  case len => obtain ⟨v, w, n, u, m, t, rfl, _⟩ := h; rfl
  case body =>
    obtain ⟨v, w, n, u, m, t, rfl, hv, hw, sn, su, sm, st, q⟩ := h
    obtain ⟨ty, b1, b2, b3, t1, k1, k2, k3, e⟩ := numTy T hw
    refine ⟨_, rfl, w, ty, b1, b2, b3, rfl, t1, k1, k2, k3, _, rfl, ?_⟩
    rw [e]
    refine iteF ?_
    refine ⟨_, rfl, _, rfl, w, m, t, rfl, hw, fun r H1 S1 hr1 => ?_⟩
    exact ⟨_, _, n, u, m, t, rfl, hv.same S1, hr1, sn, su, sm, st, _, _, rfl, rfl, q H1 S1⟩
theorem ok_Ratio___ge__ {fd : FuncData} (F : Fun K "__ge__" "Ratio.__ge__" s_Ratio___ge__ a.Ratio___ge__ fd) (T : Txt K mg a)
    {fd_difference : FuncData} (G_difference : FnOk P w K mg base CX0 1 a.difference fd_difference ["one", "other"] (spDiff a.Ratio)) (b_difference : Binds K fd_difference ["one", "other"] [])
    {fd_as_ratio : FuncData} (G_as_ratio : FnOk P w K mg base CX0 4 a.as_ratio fd_as_ratio ["number"] (spAs K a.Ratio)) (b_as_ratio : Binds K fd_as_ratio ["number"] [])
    {fd_is_number : FuncData} (G_is_number : FnOk P w K mg base CX0 2 a.is_number fd_is_number ["value"] (spIsNum K a.Ratio)) (b_is_number : Binds K fd_is_number ["value"] []) :
    FnOk P w K mg base CX0 5 a.Ratio___ge__ fd ["self", "other"] (spCmp a.Ratio cGe) := by
  refine F.ok sc_Ratio___ge__ (fun vs H Q E h => ?len) (fun cdv A outer s H vs Q E hr h => ⟨_,
      (pss_cons (ps_if (pt_not (pt_val (pe_call G_is_number (hr.mono (by omega)) (by rfl) T.g_is_number T.k_is_number b_is_number .nil pass0 (pa_cons (pv 1) pa_nil)))) (pss_one ps_never) pss_nil)
      (pss_one (ps_ret (pe_cmpR op_ge (pe_call G_difference (hr.mono (by omega)) (by rfl) T.g_difference T.k_difference b_difference .nil pass0 (pa_cons (pv 0) (pa_cons (pe_call G_as_ratio (hr.mono (by omega)) (by rfl) T.g_as_ratio T.k_as_ratio b_as_ratio .nil pass0 (pa_cons (pv 1) pa_nil)) pa_nil))) pe_int (nomark _))))), ?body⟩)
  case len => obtain ⟨v, w, n, u, m, t, rfl, _⟩ := h; rfl
  case body =>
    obtain ⟨v, w, n, u, m, t, rfl, hv, hw, sn, su, sm, st, q⟩ := h
    obtain ⟨ty, b1, b2, b3, t1, k1, k2, k3, e⟩ := numTy T hw
    refine ⟨_, rfl, w, ty, b1, b2, b3, rfl, t1, k1, k2, k3, _, rfl, ?_⟩
    rw [e]
    refine iteF ?_
    refine ⟨_, rfl, _, rfl, w, m, t, rfl, hw, fun r H1 S1 hr1 => ?_⟩
    exact ⟨_, _, n, u, m, t, rfl, hv.same S1, hr1, sn, su, sm, st, _, _, rfl, rfl, q H1 S1⟩
end
end My

namespace My
open PySem PySem.Spec PyProof.Rows L2 G
abbrev s__law_is_int : Stmt := topS 23
theorem sc__law_is_int : FnScope ["_law_value", "_law_low", "_law_high"] ["_law_value", "_law_low", "_law_high"] (defScope s__law_is_int) := ⟨rfl, rfl, rfl, by decide +kernel, rfl, by decide +kernel, by decide +kernel⟩

abbrev s__law_common : Stmt := topS 25
theorem sc__law_common : FnScope ["_law_one", "_law_other", "_law_left", "_law_right_here"] ["_law_one", "_law_other"] (defScope s__law_common) := ⟨rfl, rfl, rfl, by decide +kernel, rfl, by decide +kernel, by decide +kernel⟩

abbrev s__law_pair : Stmt := topS 26
theorem sc__law_pair : FnScope ["_law_above", "_law_under", "_law_by"] ["_law_above", "_law_under"] (defScope s__law_pair) := ⟨rfl, rfl, rfl, by decide +kernel, rfl, by decide +kernel, by decide +kernel⟩

abbrev s__law_pair_of : Stmt := topS 27
theorem sc__law_pair_of : FnScope ["_law_made"] ["_law_made"] (defScope s__law_pair_of) := ⟨rfl, rfl, rfl, by decide +kernel, rfl, by decide +kernel, by decide +kernel⟩

abbrev s__law_sum : Stmt := topS 29
theorem sc__law_sum : FnScope ["_law_one", "_law_other", "_law_sign"] ["_law_one", "_law_other", "_law_sign"] (defScope s__law_sum) := ⟨rfl, rfl, rfl, by decide +kernel, rfl, by decide +kernel, by decide +kernel⟩

abbrev s__law_product : Stmt := topS 30
theorem sc__law_product : FnScope ["_law_one", "_law_other"] ["_law_one", "_law_other"] (defScope s__law_product) := ⟨rfl, rfl, rfl, by decide +kernel, rfl, by decide +kernel, by decide +kernel⟩

abbrev s__law_order : Stmt := topS 31
theorem sc__law_order : FnScope ["_law_one", "_law_other", "_law_far"] ["_law_one", "_law_other"] (defScope s__law_order) := ⟨rfl, rfl, rfl, by decide +kernel, rfl, by decide +kernel, by decide +kernel⟩

abbrev s__law_drawn : Stmt := topS 28
theorem sc__law_drawn : FnScope ["_law_pot_here", "_law_some"] ["_law_pot_here"] (defScope s__law_drawn) := ⟨rfl, rfl, rfl, by decide +kernel, rfl, by decide +kernel, by decide +kernel⟩

/-- a pair of ints -/
def PairAt (H : Hp) (v : V) (n u : Int) : Prop := ∃ p, v = .ref p ∧ H p = some (.tup [.int n, .int u])
theorem PairAt.same {H H' : Hp} {v : V} {n u : Int} (S : Same H H') (h : PairAt H v n u) : PairAt H' v n u := let ⟨p, e, h1⟩ := h; ⟨p, e, S _ _ h1⟩
theorem PairAt.go {p : Addr} {k : Nat} {H H' : Hp} {v : V} {n u : Int} (g : Go p k H H') (h : PairAt H v n u) (hp : PotAt H p 0 ∨ v ≠ .ref p) : PairAt H' v n u := by
  obtain ⟨q, rfl, e⟩ := h
  refine ⟨q, rfl, g.at e fun z => ?_⟩
  rcases hp with ⟨x, y, w, f, _⟩ | hp
  · rw [z, f] at e
    cases e
  · exact hp (by rw [z])
def spCommon : Sp := fun vs H Q _ => ∃ a b : Int, vs = [.int a, .int b] ∧ Q (.int ((Nat.gcd a.natAbs b.natAbs : Nat) : Int)) H
def spPair : Sp := fun vs H Q _ => ∃ a b : Int, vs = [.int a, .int b] ∧ b ≠ 0 ∧ b.natAbs < 2 ^ 200 ∧ ∀ p H', H p = none → Same H H' → PairAt H' (.ref p) (rNum a b) (rUnd a b) → Q (.ref p) H'
def spPo (C : Addr) : Sp := fun vs H Q _ => ∃ v n u, vs = [v] ∧ RatAt C H v n u ∧ ∀ p H', H p = none → Same H H' → PairAt H' (.ref p) n u → Q (.ref p) H'
def spSum : Sp := fun vs H Q _ => ∃ v w n u m t s, vs = [v, w, .int s] ∧ PairAt H v n u ∧ PairAt H w m t ∧ 0 < u ∧ 0 < t ∧ Sm n ∧ Sm u ∧ Sm m ∧ Sm t ∧ Sm s ∧
  ∀ p H', H p = none → Same H H' → PairAt H' (.ref p) (rNum (n * t + s * m * u) (u * t)) (rUnd (n * t + s * m * u) (u * t)) → Q (.ref p) H'
def spProd : Sp := fun vs H Q _ => ∃ v w n u m t, vs = [v, w] ∧ PairAt H v n u ∧ PairAt H w m t ∧ 0 < u ∧ 0 < t ∧ Sm n ∧ Sm u ∧ Sm m ∧ Sm t ∧
  ∀ p H', H p = none → Same H H' → PairAt H' (.ref p) (rNum (n * m) (u * t)) (rUnd (n * m) (u * t)) → Q (.ref p) H'
def spOrd : Sp := fun vs H Q _ => ∃ v w n u m t, vs = [v, w] ∧ PairAt H v n u ∧ PairAt H w m t ∧ Sm n ∧ Sm u ∧ Sm m ∧ Sm t ∧
  ∀ l H', H l = none → l ≠ sysModules → Same H H' → H' l = some (.lst [.bl (cLt (n * t - m * u)), .bl (cLe (n * t - m * u)), .bl (cGt (n * t - m * u)), .bl (cGe (n * t - m * u))]) → Q (.ref l) H'
section
variable {P : Program} {w : World} {K : PySem.W.Frag} {mg : Str → Option Value} {base : Heap} {a : Ad}
theorem ok__law_common {fd : FuncData} (F : Fun K "_law_common" "_law_common" s__law_common a._law_common fd) (T : Txt K mg a) :
    Fn P w K mg base CX0 1 a._law_common fd ["_law_one", "_law_other"] spCommon := by
  refine ok F sc__law_common (fun vs H Q E h => ?len) (fun cdv A outer s H vs Q E hq hr h => ⟨_,
      (pss_cons (ps_par (i := 2) (j := 3) (by rfl) sc__law_common.nd rfl rfl (by decide) rfl rfl (pa_cons (pe_callB call_abs (by rfl) T.n_abs (by decide +kernel) (pa_cons (pe_callTy call_int1 (by rfl) T.n_int (by decide +kernel) (pa_cons (pv 0) pa_nil)) pa_nil)) (pa_cons (pe_callB call_abs (by rfl) T.n_abs (by decide +kernel) (pa_cons (pe_callTy call_int1 (by rfl) T.n_int (by decide +kernel) (pa_cons (pv 1) pa_nil)) pa_nil)) pa_nil)) (by rfl))
      (pss_cons (ps_while PassesOwn.never (pt_cmpR op_gt (pv 3) pe_int (nomark _)) (pss_one (ps_par (i := 2) (j := 3) (by rfl) sc__law_common.nd rfl rfl (by decide) rfl rfl (pa_cons (pv 3) (pa_cons (pe_op op_modN (pe_callTy call_int1 (by rfl) T.n_int (by decide +kernel) (pa_cons (pv 2) pa_nil)) (pe_callTy call_int1 (by rfl) T.n_int (by decide +kernel) (pa_cons (pv 3) pa_nil))) pa_nil)) (by rfl))))
      (pss_one (ps_ret (pv 2))))), ?body⟩)
  case len => obtain ⟨x, y, rfl, _⟩ := h; rfl
  case body =>
    obtain ⟨x, y, rfl, q⟩ := h
    refine ⟨_, rfl, .inl ⟨_, rfl, _, rfl, _, rfl, .inl ⟨_, rfl, _, rfl, _, _, rfl, ?_⟩⟩⟩
    refine while_by (fun σ' H' => ∃ l r : Int, σ' = [some (.int x), some (.int y), some (.int l), some (.int r)] ∧ 0 ≤ l ∧ 0 ≤ r ∧ Nat.gcd l.natAbs r.natAbs = Nat.gcd x.natAbs y.natAbs ∧ H' = H)
      (fun σ' _ => match σ' with | [_, _, _, some (.int r)] => r.toNat | _ => 0) ⟨_, _, rfl, ?_, ?_, ?_, rfl⟩ ?_ ?_
    · show (0 : Int) ≤ if x < 0 then -x else x
      split <;> omega
    · show (0 : Int) ≤ if y < 0 then -y else y
      split <;> omega
    · show Nat.gcd (if x < 0 then -x else x).natAbs (if y < 0 then -y else y).natAbs = _
      have e1 : (if x < 0 then -x else x).natAbs = x.natAbs := by split <;> omega
      have e2 : (if y < 0 then -y else y).natAbs = y.natAbs := by split <;> omega
      rw [e1, e2]
    · rintro σ' H' ⟨l, r, rfl, hl, hr0, hg, rfl⟩
      refine ⟨_, rfl, _, _, rfl, rfl, _, rfl, ite2 (fun c => ?_) (fun c => ?_)⟩
      · have c0 : 0 < r := of_decide_eq_true c
        refine ⟨_, rfl, _, rfl, .inl ⟨_, rfl, _, rfl, .inl ⟨_, rfl, _, _, rfl, rfl, (by show r ≠ 0; omega), _, _, rfl, ⟨_, _, rfl, hr0, ?_, ?_, rfl⟩, ?_⟩⟩⟩
        · exact Int.fmod_nonneg_of_pos _ c0
        · rw [gcd_step hl c0]
          exact hg
        · show (l.fmod r).toNat < r.toNat
          have h1 := Int.fmod_lt_of_pos l c0
          have h2 := Int.fmod_nonneg_of_pos l c0
          omega
      · have c0 : r = 0 := by
          have : ¬ 0 < r := fun z => c (decide_eq_true z)
          omega
        subst c0
        have e : ((Nat.gcd x.natAbs y.natAbs : Nat) : Int) = l := by
          rw [← hg, show (0 : Int).natAbs = 0 from rfl, Nat.gcd_zero_right]
          omega
        rw [e] at q
        exact ⟨_, rfl, q⟩
    · rintro σ' H' Q1 Q2 imp ⟨v, e1, i, j, e2, e3, k, e4, z⟩
      exact ⟨v, e1, i, j, e2, e3, k, e4, imp _ _ z⟩
theorem ok__law_pair {fd : FuncData} (F : Fun K "_law_pair" "_law_pair" s__law_pair a._law_pair fd) (T : Txt K mg a)
    {fd__law_common : FuncData} (G__law_common : Fn P w K mg base CX0 1 a._law_common fd__law_common ["_law_one", "_law_other"] spCommon) (b__law_common : Binds K fd__law_common ["_law_one", "_law_other"] []) :
    Fn P w K mg base CX0 2 a._law_pair fd ["_law_above", "_law_under"] spPair := by
  refine ok F sc__law_pair (fun vs H Q E h => ?len) (fun cdv A outer s H vs Q E hq hr h => ⟨_,
      (pss_cons (ps_set (i := 2) sc__law_pair.nd rfl (Or.inl rfl) (pe_fn G__law_common hq (hr.mono (by omega)) (by rfl) T.g__law_common T.k__law_common b__law_common .nil pass0 (pa_cons (pv 0) (pa_cons (pv 1) pa_nil))))
      (pss_cons (ps_set (i := 2) sc__law_pair.nd rfl (Or.inl rfl) (pe_ifExp (pt_cmpR op_lt (pv 1) pe_int (nomark _)) (pe_un un_neg (pv 2)) (pv 2)))
      (pss_one (ps_ret (pe_tup (pa_cons (pe_op op_fdivZ (pv 0) (pv 2)) (pa_cons (pe_op op_fdivZ (pv 1) (pv 2)) pa_nil))))))), ?body⟩)
  case len => obtain ⟨x, y, rfl, _⟩ := h; rfl
  case body =>
    obtain ⟨x, y, rfl, h0, h1, q⟩ := h
    have hb : byOf x y ≠ 0 := byOf_ne h0
    have hl : (byOf x y).natAbs.log2 < 9000 := log_of (Nat.lt_of_le_of_lt (byOf_le h0) h1)
    have fin : ∀ g : Int, g = byOf x y → ∀ p, H p = none → Q (.ref p) (upd H p (.tup [.int (x.fdiv g), .int (y.fdiv g)])) := fun g e p hp => by
      refine q p _ hp (same_new hp) ⟨p, rfl, ?_⟩
      rw [e]
      exact upd_same
    refine ⟨_, rfl, _, rfl, x, y, rfl, _, rfl, _, _, rfl, rfl, _, rfl, ite2 (fun c => ?_) (fun c => ?_)⟩
    · have e : -((Nat.gcd x.natAbs y.natAbs : Nat) : Int) = byOf x y := by
        unfold byOf
        rw [if_pos (of_decide_eq_true c)]
      refine ⟨_, rfl, _, rfl, ?_⟩
      refine ⟨_, rfl, _, rfl, _, _, rfl, rfl, ⟨by rw [e]; exact hb, by rw [e]; exact hl⟩, _, rfl, _, rfl, _, _, rfl, rfl, ⟨by rw [e]; exact hb, by rw [e]; exact hl⟩, (by show 2 ≤ sizeLine; decide), ?_⟩
      exact fin _ e
    · have e : ((Nat.gcd x.natAbs y.natAbs : Nat) : Int) = byOf x y := by
        unfold byOf
        rw [if_neg fun z => c (decide_eq_true z)]
      refine ⟨_, rfl, ?_⟩
      refine ⟨_, rfl, _, rfl, _, _, rfl, rfl, ⟨by rw [e]; exact hb, by rw [e]; exact hl⟩, _, rfl, _, rfl, _, _, rfl, rfl, ⟨by rw [e]; exact hb, by rw [e]; exact hl⟩, (by show 2 ≤ sizeLine; decide), ?_⟩
      exact fin _ e
theorem ok__law_pair_of {fd : FuncData} (F : Fun K "_law_pair_of" "_law_pair_of" s__law_pair_of a._law_pair_of fd) (T : Txt K mg a) :
    Fn P w K mg base CX0 1 a._law_pair_of fd ["_law_made"] (spPo a.Ratio) := by
  refine ok F sc__law_pair_of (fun vs H Q E h => ?len) (fun cdv A outer s H vs Q E hq hr h => ⟨_,
      (pss_one (ps_ret (pe_tup (pa_cons (pe_fld (pv 0) rfl) (pa_cons (pe_fld (pv 0) rfl) pa_nil))))), ?body⟩)
  case len => obtain ⟨v, n, u, rfl, _⟩ := h; rfl
  case body =>
    obtain ⟨v, n, u, rfl, ⟨x, dx, rfl, hx⟩, q⟩ := h
    refine ⟨_, rfl, _, _, _, _, _, rfl, hx, T.cl, T.nN, rfl, _, rfl, _, _, _, _, _, rfl, hx, T.cl, T.nU, rfl, (by show 2 ≤ sizeLine; decide), fun p hp => ?_⟩
    exact q p _ hp (same_new hp) ⟨p, rfl, upd_same⟩
theorem ok__law_sum {fd : FuncData} (F : Fun K "_law_sum" "_law_sum" s__law_sum a._law_sum fd) (T : Txt K mg a)
    {fd__law_pair : FuncData} (G__law_pair : Fn P w K mg base CX0 2 a._law_pair fd__law_pair ["_law_above", "_law_under"] spPair) (b__law_pair : Binds K fd__law_pair ["_law_above", "_law_under"] []) :
    Fn P w K mg base CX0 3 a._law_sum fd ["_law_one", "_law_other", "_law_sign"] spSum := by
  refine ok F sc__law_sum (fun vs H Q E h => ?len) (fun cdv A outer s H vs Q E hq hr h => ⟨_,
      (pss_one (ps_ret (pe_fn G__law_pair hq (hr.mono (by omega)) (by rfl) T.g__law_pair T.k__law_pair b__law_pair .nil pass0 (pa_cons (pe_op op_add (pe_op op_mul (pe_ix ix_tup (pv 0) pe_int (fun _ _ => rfl)) (pe_ix ix_tup (pv 1) pe_int (fun _ _ => rfl))) (pe_op op_mul (pe_op op_mul (pv 2) (pe_ix ix_tup (pv 1) pe_int (fun _ _ => rfl))) (pe_ix ix_tup (pv 0) pe_int (fun _ _ => rfl)))) (pa_cons (pe_op op_mul (pe_ix ix_tup (pv 0) pe_int (fun _ _ => rfl)) (pe_ix ix_tup (pv 1) pe_int (fun _ _ => rfl))) pa_nil))))), ?body⟩)
  case len => obtain ⟨v, w, n, u, m, t, s, rfl, _⟩ := h; rfl
  case body =>
    obtain ⟨v, w, n, u, m, t, s, rfl, ⟨x, rfl, hx⟩, ⟨y, rfl, hy⟩, u0, t0, sn, su, sm, st, ss, q⟩ := h
    refine ⟨_, rfl, _, _, _, _, rfl, rfl, SqT.of hx, rfl, _, rfl, _, _, _, _, rfl, rfl, SqT.of hy, rfl, _, _, rfl, rfl, .inl sn, ?_⟩
    refine ⟨_, rfl, _, rfl, _, _, _, _, rfl, rfl, SqT.of hy, rfl, _, _, rfl, rfl, .inl ss, _, rfl, _, _, _, _, rfl, rfl, SqT.of hx, rfl, _, _, rfl, rfl, .inr su, _, _, rfl, rfl, ?_⟩
    refine ⟨_, rfl, _, _, _, _, rfl, rfl, SqT.of hx, rfl, _, rfl, _, _, _, _, rfl, rfl, SqT.of hy, rfl, _, _, rfl, rfl, .inl su, ?_⟩
    exact ⟨_, _, rfl, mulne u0 t0, smul200 su st, q⟩
theorem ok__law_product {fd : FuncData} (F : Fun K "_law_product" "_law_product" s__law_product a._law_product fd) (T : Txt K mg a)
    {fd__law_pair : FuncData} (G__law_pair : Fn P w K mg base CX0 2 a._law_pair fd__law_pair ["_law_above", "_law_under"] spPair) (b__law_pair : Binds K fd__law_pair ["_law_above", "_law_under"] []) :
    Fn P w K mg base CX0 3 a._law_product fd ["_law_one", "_law_other"] spProd := by
  refine ok F sc__law_product (fun vs H Q E h => ?len) (fun cdv A outer s H vs Q E hq hr h => ⟨_,
      (pss_one (ps_ret (pe_fn G__law_pair hq (hr.mono (by omega)) (by rfl) T.g__law_pair T.k__law_pair b__law_pair .nil pass0 (pa_cons (pe_op op_mul (pe_ix ix_tup (pv 0) pe_int (fun _ _ => rfl)) (pe_ix ix_tup (pv 1) pe_int (fun _ _ => rfl))) (pa_cons (pe_op op_mul (pe_ix ix_tup (pv 0) pe_int (fun _ _ => rfl)) (pe_ix ix_tup (pv 1) pe_int (fun _ _ => rfl))) pa_nil))))), ?body⟩)
  case len => obtain ⟨v, w, n, u, m, t, rfl, _⟩ := h; rfl
  case body =>
    obtain ⟨v, w, n, u, m, t, rfl, ⟨x, rfl, hx⟩, ⟨y, rfl, hy⟩, u0, t0, sn, su, sm, st, q⟩ := h
    refine ⟨_, rfl, _, _, _, _, rfl, rfl, SqT.of hx, rfl, _, rfl, _, _, _, _, rfl, rfl, SqT.of hy, rfl, _, _, rfl, rfl, .inl sn, ?_⟩
    refine ⟨_, rfl, _, _, _, _, rfl, rfl, SqT.of hx, rfl, _, rfl, _, _, _, _, rfl, rfl, SqT.of hy, rfl, _, _, rfl, rfl, .inl su, ?_⟩
    exact ⟨_, _, rfl, mulne u0 t0, smul200 su st, q⟩
theorem ok__law_order {fd : FuncData} (F : Fun K "_law_order" "_law_order" s__law_order a._law_order fd) (T : Txt K mg a) :
    Fn P w K mg base CX0 1 a._law_order fd ["_law_one", "_law_other"] spOrd := by
  refine ok F sc__law_order (fun vs H Q E h => ?len) (fun cdv A outer s H vs Q E hq hr h => ⟨_,
      (pss_cons (ps_set (i := 2) sc__law_order.nd rfl (Or.inl rfl) (pe_op op_sub (pe_op op_mul (pe_ix ix_tup (pv 0) pe_int (fun _ _ => rfl)) (pe_ix ix_tup (pv 1) pe_int (fun _ _ => rfl))) (pe_op op_mul (pe_ix ix_tup (pv 1) pe_int (fun _ _ => rfl)) (pe_ix ix_tup (pv 0) pe_int (fun _ _ => rfl)))))
      (pss_one (ps_ret (pe_lstS (pa_cons (pe_cmpR op_lt (pv 2) pe_int (nomark _)) (pa_cons (pe_cmpR op_le (pv 2) pe_int (nomark _)) (pa_cons (pe_cmpR op_gt (pv 2) pe_int (nomark _)) (pa_cons (pe_cmpR op_ge (pv 2) pe_int (nomark _)) pa_nil)))))))), ?body⟩)
  case len => obtain ⟨v, w, n, u, m, t, rfl, _⟩ := h; rfl
  case body =>
    obtain ⟨v, w, n, u, m, t, rfl, ⟨x, rfl, hx⟩, ⟨y, rfl, hy⟩, sn, su, sm, st, q⟩ := h
    refine ⟨_, rfl, _, _, _, _, rfl, rfl, SqT.of hx, rfl, _, rfl, _, _, _, _, rfl, rfl, SqT.of hy, rfl, _, _, rfl, rfl, .inl sn, ?_⟩
    refine ⟨_, rfl, _, _, _, _, rfl, rfl, SqT.of hy, rfl, _, rfl, _, _, _, _, rfl, rfl, SqT.of hx, rfl, _, _, rfl, rfl, .inl sm, _, _, rfl, rfl, ?_⟩
    refine ⟨_, rfl, _, _, rfl, rfl, _, rfl, _, _, rfl, rfl, _, rfl, _, _, rfl, rfl, _, rfl, _, _, rfl, rfl, (by show 4 ≤ sizeLine; decide), fun l hl sl => ?_⟩
    exact q l _ hl sl (same_new hl) upd_same
end
end My

namespace My
open PySem PySem.Spec PyProof.Rows L2 G
def spDrawn : Sp := fun vs H Q _ => ∃ (p : Addr) (k : Nat), vs = [.ref p] ∧ PotAt H p k ∧ k ≤ 90000 ∧ ∀ v H' n u, Go p (k + 5) H H' → PairAt H' v n u → Red n u → -(10 ^ 6) ≤ n → n ≤ 10 ^ 6 → u ≤ 10 ^ 6 → Q v H'
theorem cpow6 : CPowW 10 6 := ⟨by decide, by decide, by decide +kernel⟩
section
variable {P : Program} {w : World} {K : PySem.W.Frag} {mg : Str → Option Value} {base : Heap} {a : Ad}
theorem ok__law_drawn {fd : FuncData} (F : Fun K "_law_drawn" "_law_drawn" s__law_drawn a._law_drawn fd) (T : Txt K mg a)
    {fd__law_pair : FuncData} (G__law_pair : Fn P w K mg base CX0 2 a._law_pair fd__law_pair ["_law_above", "_law_under"] spPair) (b__law_pair : Binds K fd__law_pair ["_law_above", "_law_under"] [])
    {fd__law_of : FuncData} (G__law_of : Fn P w K mg base CX0 2 a._law_of fd__law_of ["_law_pot_here", "_law_some"] spOf) (b__law_of : Binds K fd__law_of ["_law_pot_here", "_law_some"] [])
    {fd__law_take : FuncData} (G__law_take : Fn P w K mg base CX0 1 a._law_take fd__law_take ["_law_pot_here", "_law_upto"] spTake) (b__law_take : Binds K fd__law_take ["_law_pot_here", "_law_upto"] []) :
    Fn P w K mg base CX0 3 a._law_drawn fd ["_law_pot_here"] spDrawn := by
  refine ok F sc__law_drawn (fun vs H Q E h => ?len) (fun cdv A outer s H vs Q E hq hr h => ⟨_,
      (pss_cons (ps_set (i := 1) sc__law_drawn.nd rfl (Or.inl rfl) (pe_lstS (pa_cons pe_int (pa_cons pe_int (pa_cons (pe_un un_neg pe_int) (pa_cons pe_int (pa_cons (pe_un un_neg pe_int) (pa_cons pe_int (pa_cons pe_int (pa_cons (pe_un un_neg pe_int) (pa_cons pe_int (pa_cons (pe_op op_sub (pe_fn G__law_take hq (hr.mono (by omega)) (by rfl) T.g__law_take T.k__law_take b__law_take .nil pass0 (pa_cons (pv 0) (pa_cons pe_int pa_nil))) pe_int) (pa_cons (pe_fn G__law_take hq (hr.mono (by omega)) (by rfl) T.g__law_take T.k__law_take b__law_take .nil pass0 (pa_cons (pv 0) (pa_cons (pe_op op_powW pe_int pe_int) pa_nil))) pa_nil)))))))))))))
      (pss_one (ps_ret (pe_fn G__law_pair hq (hr.mono (by omega)) (by rfl) T.g__law_pair T.k__law_pair b__law_pair .nil pass0 (pa_cons (pe_fn G__law_of hq (hr.mono (by omega)) (by rfl) T.g__law_of T.k__law_of b__law_of .nil pass0 (pa_cons (pv 0) (pa_cons (pv 1) pa_nil))) (pa_cons (pe_fn G__law_of hq (hr.mono (by omega)) (by rfl) T.g__law_of T.k__law_of b__law_of .nil pass0 (pa_cons (pv 0) (pa_cons (pe_lstS (pa_cons pe_int (pa_cons pe_int (pa_cons pe_int (pa_cons pe_int (pa_cons pe_int (pa_cons pe_int (pa_cons pe_int (pa_cons pe_int (pa_cons (pe_op op_add pe_int (pe_fn G__law_take hq (hr.mono (by omega)) (by rfl) T.g__law_take T.k__law_take b__law_take .nil pass0 (pa_cons (pv 0) (pa_cons pe_int pa_nil)))) pa_nil)))))))))) pa_nil))) pa_nil)))))), ?body⟩)
  case len => obtain ⟨p, k, rfl, _⟩ := h; rfl
  case body =>
    obtain ⟨p, k, rfl, pot, hk, q⟩ := h
    refine ⟨_, rfl, _, rfl, _, rfl, _, rfl, p, 400, k, rfl, pot, by omega, by decide, by decide, fun d1 H1 a1 b1 g1 => ?_⟩
    refine ⟨_, _, rfl, rfl, _, rfl, _, _, rfl, rfl, cpow6, p, _, k + 1, rfl, g1.pot, by omega, by decide, by decide, fun d2 H2 a2 b2 g2 => ?_⟩
    refine ⟨(by show 11 ≤ sizeLine; decide), fun l hl sl => ?_⟩
    have g12 : Go p (k + 2) H H2 := g1.trans g2
    have S2 : ∀ o, Same H2 (upd H2 l o) := fun o => same_new hl
    have nl : l ≠ p := fun z => g12.pot.has (by rw [← z]; exact hl)
    refine ⟨_, rfl, _, rfl, p, l, k + 2, _, rfl, nl, g12.pot.same (S2 _), by omega, upd_same, (by simp), (by show 11 ≤ 10 ^ 6; decide), fun x H3 hx g3 => ?_⟩
    have g13 : Go p (k + 3) H H3 := g12.trans (Go.of (S2 _) g3)
    obtain ⟨i, rfl, i0, i1⟩ : ∃ i : Int, x = .int i ∧ -(10 ^ 6) ≤ i ∧ i ≤ 10 ^ 6 := by
      have b2' : d2 < 10 ^ 6 := b2
      simp only [List.mem_cons, List.not_mem_nil, or_false] at hx
      rcases hx with rfl | rfl | rfl | rfl | rfl | rfl | rfl | rfl | rfl | rfl | rfl <;> exact ⟨_, rfl, by omega, by omega⟩
    refine ⟨_, rfl, _, rfl, p, 60, k + 3, rfl, g13.pot, by omega, by decide, by decide, fun d3 H4 a3 b3 g4 => ?_⟩
    refine ⟨_, _, rfl, rfl, (by show 9 ≤ sizeLine; decide), fun l2 hl2 sl2 => ?_⟩
    have g14 : Go p (k + 4) H H4 := g13.trans g4
    have S4 : ∀ o, Same H4 (upd H4 l2 o) := fun o => same_new hl2
    have nl2 : l2 ≠ p := fun z => g14.pot.has (by rw [← z]; exact hl2)
    refine ⟨p, l2, k + 4, _, rfl, nl2, g14.pot.same (S4 _), by omega, upd_same, (by simp), (by show 9 ≤ 10 ^ 6; decide), fun y H5 hy g5 => ?_⟩
    have g15 : Go p (k + 5) H H5 := g14.trans (Go.of (S4 _) g5)
    obtain ⟨j, rfl, j0, j1⟩ : ∃ j : Int, y = .int j ∧ 1 ≤ j ∧ j ≤ 10 ^ 6 := by
      simp only [List.mem_cons, List.not_mem_nil, or_false] at hy
      rcases hy with rfl | rfl | rfl | rfl | rfl | rfl | rfl | rfl | rfl <;> exact ⟨_, rfl, by omega, by omega⟩
    have j2 : j ≠ 0 := by omega
    refine ⟨i, j, rfl, j2, by omega, fun p6 H6 hp6 S6 pr => ?_⟩
    have n1 := num_le (n := i) j2
    have n2 := und_le (n := i) j2
    exact q (.ref p6) H6 _ _ ⟨g15.keep.trans (mask_mono S6), g15.pot.same S6⟩ pr (red_of j2) (by omega) (by omega) (by omega)
end
end My

namespace My
open PySem PySem.Spec PyProof.Rows L2 G
abbrev s_Ratio_divided : Stmt := inClass (topS 16) 3
theorem sc_Ratio_divided : FnScope ["self", "other", "by"] ["self", "other"] (defScope s_Ratio_divided) := ⟨rfl, rfl, rfl, by decide +kernel, rfl, by decide +kernel, by decide +kernel⟩

/-- the value is no number, or 0 -/
def NoDiv (K : PySem.W.Frag) (C : Addr) (H : Hp) (v : V) : Prop := (∃ t, NumAt C H v 0 t) ∨ ∃ ty b1 b2 b3, TyX K H v ty ∧ PySem.W.kitOne K ty (.type "int") = some b1 ∧ PySem.W.kitOne K ty (.type "bool") = some b2 ∧ PySem.W.kitOne K ty (.ref C) = some b3 ∧ ((b1 && !b2) || b3) = false
def spDiv (K : PySem.W.Frag) (C B : Addr) : Sp := fun vs H Q E => ∃ v w n u, vs = [v, w] ∧ RatAt C H v n u ∧
  ((∃ m t, NumAt C H w m t ∧ m ≠ 0 ∧ 0 < u ∧ Sm n ∧ Sm u ∧ Sm m ∧ Sm t ∧ ∀ z H', Same H H' → RatAt C H' z (rNum (n * t) (u * m)) (rUnd (n * t) (u * m)) → Q z H') ∨
   (NoDiv K C H w ∧ ∀ d H', Same H H' → H' d = some (.xd [("value", w)]) → E (.ref B) (some d) H'))
section
variable {P : Program} {w : World} {K : PySem.W.Frag} {mg : Str → Option Value} {base : Heap} {a : Ad}
theorem iteS {c A B : Prop} [Decidable c] (hc : c) (h : A) : if decide c = true then A else B := by rw [decide_eq_true hc]; exact iteT h
/-- what the raising asks -/
theorem raise_told {H1 : Hp} {C : Addr} {w : V} {Q : XK} (T : EC K C) (q : ∀ d H', Same H1 H' → H' d = some (.xd [("value", w)]) → Q (.ref C) (some d) H') : ([w] : List V).length ≤ 1000 ∧ ∀ a, H1 a = none → spErrInit K (.ref a :: ([w] ++ [])) (upd H1 a (exo a C none))
    (fun v H2 => v = .non ∧ ∃ (d : Addr) (fs : List (Str × V)), H2 a = some (exo a C (some d)) ∧ H2 d = some (exd d fs) ∧ H1 d = none ∧ Q (.ref C) (some d) (upd (del H2 a) d (.xd fs))) (fun _ _ _ => False) := by
  refine ⟨(by show 1 ≤ 1000; decide), fun e he => ⟨e, C, w, rfl, T.ox, T.nv, upd_same, fun d hd hne => ⟨rfl, d, [("value", w)], upd_same, ?_, ?_, ?_⟩⟩⟩
  · rw [upd_ne hne]; exact upd_same
  · rw [upd_ne hne] at hd
    exact hd
  · refine q d _ (fun b o z => ?_) upd_same
    have nd : b ≠ d := by
      rw [upd_ne hne] at hd
      exact ne_of_none z hd
    have ne : b ≠ e := ne_of_none z he
    rw [upd_ne nd, del_ne ne, upd_ne ne, upd_ne nd, upd_ne ne]
    exact z
theorem ok_Ratio_divided {fd : FuncData} (F : Fun K "divided" "Ratio.divided" s_Ratio_divided a.Ratio_divided fd) (T : Txt K mg a)
    {fd_Ratio___init__ : FuncData} (G_Ratio___init__ : FnOk P w K mg base CX0 2 a.Ratio___init__ fd_Ratio___init__ ["self", "number", "under"] (spInit K a.Ratio)) (b_Ratio___init__ : Binds K fd_Ratio___init__ ["self", "number", "under"] [])
    {ds_Ratio___init__ : List Value} (d_Ratio___init__ : Vals [.int 1] ds_Ratio___init__ ∧ Binds K fd_Ratio___init__ ["self", "number", "under"] ds_Ratio___init__)
    {fd_as_ratio : FuncData} (G_as_ratio : FnOk P w K mg base CX0 4 a.as_ratio fd_as_ratio ["number"] (spAs K a.Ratio)) (b_as_ratio : Binds K fd_as_ratio ["number"] [])
    {fd_is_number : FuncData} (G_is_number : FnOk P w K mg base CX0 2 a.is_number fd_is_number ["value"] (spIsNum K a.Ratio)) (b_is_number : Binds K fd_is_number ["value"] [])
    {fd_init : FuncData} (G_init : FnOk P w K mg base CX0 1 a.init fd_init ["self", "value"] (spErrInit K)) (b_init : Binds K fd_init ["self", "value"] []) :
    FnOk P w K mg base (L2.CX P w) 5 a.Ratio_divided fd ["self", "other"] (spDiv K a.Ratio a.BadRatio) := by
  refine F.okX sc_Ratio_divided (fun vs H Q E h => ?len) (fun cdv A outer s H vs Q E hr h => ⟨_,
      (pss_cons (ps_if (PW.pt (pw_or (pt_not (pt_val (pe_call G_is_number (hr.mono (by omega)) (by rfl) T.g_is_number T.k_is_number b_is_number .nil pass0 (pa_cons (pv 1) pa_nil)))) (pw_or1 (pt_cmpR op_eq (pe_fld (pe_call G_as_ratio (hr.mono (by omega)) (by rfl) T.g_as_ratio T.k_as_ratio b_as_ratio .nil pass0 (pa_cons (pv 1) pa_nil)) rfl) pe_int (nomark _))))) (pss_one (ps_raise rfl (takes_of rfl rfl rfl rfl) (pmk_oex T.c_BadRatio.ox T.i_BadRatio T.tI G_init (hr.mono (by omega)) b_init .nil pass0 (by rfl) T.g_BadRatio (pa_cons (pv 1) pa_nil)))) pss_nil)
      (pss_cons (ps_set (i := 2) sc_Ratio_divided.nd rfl (Or.inl rfl) (pe_call G_as_ratio (hr.mono (by omega)) (by rfl) T.g_as_ratio T.k_as_ratio b_as_ratio .nil pass0 (pa_cons (pv 1) pa_nil)))
      (pss_one (ps_ret (pe_make T.m_Ratio G_Ratio___init__ (hr.mono (by omega)) (by rfl) T.g_Ratio b_Ratio___init__ .nil pass0 (pa_cons (pe_op op_mul (pe_fld (pv 0) rfl) (pe_fld (pv 2) rfl)) (pa_cons (pe_op op_mul (pe_fld (pv 0) rfl) (pe_fld (pv 2) rfl)) pa_nil))))))), ?body⟩)
  case len => obtain ⟨v, w, n, u, rfl, _⟩ := h; rfl
  case body =>
    obtain ⟨v, w, n, u, rfl, hv, h⟩ := h
    rcases h with ⟨m, t, hw, m0, u0, sn, su, sm, st, q⟩ | ⟨⟨t, hw⟩ | ⟨ty, b1, b2, b3, t1, k1, k2, k3, e⟩, q⟩
    · obtain ⟨ty, b1, b2, b3, t1, k1, k2, k3, e⟩ := numTy T hw
      refine ⟨_, rfl, w, ty, b1, b2, b3, rfl, t1, k1, k2, k3, _, rfl, ?_⟩
      rw [e]
      refine iteF ?_
      refine ⟨_, rfl, w, m, t, rfl, hw, fun r H1 S1 hr1 => ?_⟩
      obtain ⟨y, dy, rfl, hy⟩ := hr1
      refine ⟨_, _, _, _, _, rfl, hy, T.cl, T.nN, rfl, rfl, _, rfl, ite2 (fun c => ?_) (fun c => ?_)⟩
      · exact absurd (of_decide_eq_true c) (by intro z; injection z with z; exact m0 z)
      refine ⟨_, rfl, w, m, t, rfl, hw.same S1, fun r2 H2 S2 hr2 => ?_⟩
      obtain ⟨z, dz, rfl, hz⟩ := hr2
      obtain ⟨x, dx, rfl, hx⟩ := hv.same (S1.trans S2)
      refine ⟨_, rfl, _, _, _, _, _, rfl, hx, T.cl, T.nN, rfl, _, rfl, _, _, _, _, _, rfl, hz, T.cl, T.nU, rfl, _, _, rfl, rfl, .inl sn, ?_⟩
      refine ⟨_, rfl, _, _, _, _, _, rfl, hx, T.cl, T.nU, rfl, _, rfl, _, _, _, _, _, rfl, hz, T.cl, T.nN, rfl, _, _, rfl, rfl, .inl su, ?_⟩
      exact mk_rat (Int.mul_ne_zero (by omega) m0) (smul200 su sm) fun z H' S hz => q z H' ((S1.trans S2).trans S) hz
    · obtain ⟨ty, b1, b2, b3, t1, k1, k2, k3, e⟩ := numTy T hw
      refine ⟨_, rfl, w, ty, b1, b2, b3, rfl, t1, k1, k2, k3, _, rfl, ?_⟩
      rw [e]
      refine iteF ?_
      refine ⟨_, rfl, w, 0, t, rfl, hw, fun r H1 S1 hr1 => ?_⟩
      obtain ⟨y, dy, rfl, hy⟩ := hr1
      refine ⟨_, _, _, _, _, rfl, hy, T.cl, T.nN, rfl, rfl, _, rfl, iteS rfl ?_⟩
      exact ⟨_, rfl, raise_told T.c_BadRatio fun d H' S e => q d H' (S1.trans S) e⟩
    · refine ⟨_, rfl, w, ty, b1, b2, b3, rfl, t1, k1, k2, k3, _, rfl, ?_⟩
      rw [e]
      refine iteT ?_
      exact ⟨_, rfl, raise_told T.c_BadRatio q⟩
end
end My

namespace My
open PySem PySem.Spec PyProof.Rows L2 G
/-- a number that is not too long to be shown -/
def Lw (i : Int) : Prop := i.natAbs < 2 ^ 200
theorem Lw.log {i : Int} (h : Lw i) : i.natAbs.log2 < 1920 := Nat.lt_of_lt_of_le (PySem.Flt.log2_lt_of (k := 200) (by decide) h) (by decide)
theorem pair_shown {n u : Int} (hn : Lw n) (hu : Lw u) : (PyData.tuple [.int n, .int u]).showable = true ∧ (PyData.tuple [.int n, .int u]).depth ≤ 20 ∧ (PyData.tuple [.int n, .int u]).shown.length ≤ sizeLine := by
  refine ⟨?_, ?_, ?_⟩
  · simp [PyData.showable, PyData.showableAll, hn.log, hu.log]
  · simp [PyData.depth, PyData.depthAll]
  · rw [PyData.shown_tuple]
    refine Nat.le_trans (tupleText_len_le _) ?_
    have e1 := int_text_len_1921 hn.log
    have e2 := int_text_len_1921 hu.log
    simp only [PyData.shownAll_cons, PyData.shownAll_nil, PyData.shown_int, List.map_cons, List.map_nil, List.sum_cons, List.sum_nil, List.length_cons, List.length_nil]
    rw [sizeLine_eq]
    omega
theorem bools4 : ∀ a b c d : Bool, gdB 20 2 (.list [.bool a, .bool b, .bool c, .bool d]) = true := by decide +kernel
theorem PairAt.da {H : Hp} {v : V} {n u : Int} (h : PairAt H v n u) : Da H v (.tuple [.int n, .int u]) := by
  obtain ⟨p, rfl, e⟩ := h
  exact .tup e (.cons (.int _) (.cons (.int _) .nil))
/-! ### rows: a Ratio and the pair that it should be -/
def RowOk (C : Addr) (H : Hp) (x : V) : Prop := ∃ t r q n u, x = .ref t ∧ H t = some (.tup [r, q]) ∧ RatAt C H r n u ∧ PairAt H q n u ∧ Lw n ∧ Lw u
theorem RowOk.same {C : Addr} {H H' : Hp} {x : V} (S : Same H H') (h : RowOk C H x) : RowOk C H' x := by
  obtain ⟨t, r, q, n, u, e, e1, e2, e3, l⟩ := h
  exact ⟨t, r, q, n, u, e, S _ _ e1, e2.same S, e3.same S, l⟩
theorem row_mk {C : Addr} {H : Hp} {t : Addr} {r q : V} {n u : Int} (ht : H t = none) (h1 : RatAt C H r n u) (h2 : PairAt H q n u) (ln : Lw n) (lu : Lw u) : RowOk C (upd H t (.tup [r, q])) (.ref t) :=
  ⟨t, r, q, n, u, rfl, upd_same, h1.same (same_new ht), h2.same (same_new ht), ln, lu⟩
/-- a list that grows leaves the rest as it is -/
theorem lst_ne {H : Hp} {l b : Addr} {xs : List V} {o : HO} (hl : H l = some (.lst xs)) (hb : H b = some o) (h : ∀ ys, o ≠ .lst ys) : b ≠ l := fun z => by
  rw [z, hl] at hb
  exact h _ (Option.some.inj hb).symm
theorem RatAt.grow {C : Addr} {H : Hp} {v : V} {n u : Int} {l : Addr} {xs ys : List V} (hl : H l = some (.lst xs)) (h : RatAt C H v n u) : RatAt C (upd H l (.lst ys)) v n u := by
  obtain ⟨a, dx, e, e1⟩ := h
  exact ⟨a, dx, e, by rw [upd_ne (lst_ne hl e1 fun _ z => nomatch z)]; exact e1⟩
theorem PairAt.grow {H : Hp} {v : V} {n u : Int} {l : Addr} {xs ys : List V} (hl : H l = some (.lst xs)) (h : PairAt H v n u) : PairAt (upd H l (.lst ys)) v n u := by
  obtain ⟨a, e, e1⟩ := h
  exact ⟨a, e, by rw [upd_ne (lst_ne hl e1 fun _ z => nomatch z)]; exact e1⟩
theorem RowOk.grow {C : Addr} {H : Hp} {x : V} {l : Addr} {xs ys : List V} (hl : H l = some (.lst xs)) (h : RowOk C H x) : RowOk C (upd H l (.lst ys)) x := by
  obtain ⟨t, r, q, n, u, e, e1, e2, e3, z⟩ := h
  exact ⟨t, r, q, n, u, e, by rw [upd_ne (lst_ne hl e1 fun _ z => nomatch z)]; exact e1, e2.grow hl, e3.grow hl, z⟩
/-- what stood there before the list is as it was -/
theorem same_grow {H H1 : Hp} {l : Addr} {ys : List V} (S : Same H H1) (n : H l = none) : Same H (upd H1 l (.lst ys)) := fun b o e => by
  rw [upd_ne (ne_of_none e n)]
  exact S b o e
theorem Lw.mul {n t : Int} (h : Sm n) (h' : Sm t) : n * t < 2 ^ 128 ∧ -(2 ^ 128) < n * t := by
  have z : (n * t).natAbs < 2 ^ (64 + 64) := wide_lt (by obtain ⟨h1, h2⟩ := h; omega) (by obtain ⟨h1, h2⟩ := h'; omega)
  omega
theorem lw_num {n u : Int} (h : u ≠ 0) (l : Lw n) : Lw (rNum n u) := Nat.lt_of_le_of_lt (num_le h) l
theorem lw_und {n u : Int} (h : u ≠ 0) (l : Lw u) : Lw (rUnd n u) := Nat.lt_of_le_of_lt (und_le h) l
theorem lw_of {n : Int} (h : n < 2 ^ 199 ∧ -(2 ^ 199) < n) : Lw n := by
  unfold Lw
  omega
end My

namespace My
open PySem PySem.Spec PyProof.Rows L2 G
abbrev s__law_pair_right : Stmt := topS 32
theorem sc__law_pair_right : FnScope ["_law_one", "_law_other", "_law_made", "_law_its", "_law_rows", "_law_row"] ["_law_one", "_law_other"] (defScope s__law_pair_right) := ⟨rfl, rfl, rfl, by decide +kernel, rfl, by decide +kernel, by decide +kernel⟩

theorem passF {X : Cx} : Passes (L2.CX X.prog X.w) X E0 := fun _ _ _ _ _ _ _ h => by
  obtain ⟨_, _, _, _, _, _, _, _, _, _, _, _, z⟩ := h
  exact z.elim
def spPr (K : PySem.W.Frag) : Sp := fun vs H Q _ => ∃ v w n u m t, vs = [v, w] ∧ PairAt H v n u ∧ PairAt H w m t ∧ Red n u ∧ Red m t ∧ Sm n ∧ Sm u ∧ Sm m ∧ Sm t ∧ ∀ H', Same H H' → Q (.bl true) H'
theorem mk_at {K : PySem.W.Frag} {C x dx : Addr} {H : Hp} {n u : Int} {P : VK} (h0 : u ≠ 0) (h1 : u.natAbs < 2 ^ 200) (hx : H x = none) (hdx : H dx = none) (ne : dx ≠ x) (q : ∀ H', Same H H' → RatAt C H' (.ref x) (rNum n u) (rUnd n u) → P .non H') :
    spInit K C [.ref x, .int n, .int u] (upd (upd H dx (.own x)) x (.ins C dx [])) P E0 := by
  refine ⟨x, dx, n, u, rfl, h0, h1, upd_same, q _ (fun b o e => ?_) ⟨x, dx, rfl, upd_same⟩⟩
  rw [upd_ne (ne_of_none e hx), upd_ne (ne_of_none e hx), upd_ne (ne_of_none e hdx)]
  exact e
theorem sum_add (n u m t : Int) : n * t + 1 * m * u = n * t + m * u := by rw [Int.one_mul]
theorem sum_sub (n u m t : Int) : n * t + -1 * m * u = n * t - m * u := by rw [Int.neg_mul, Int.one_mul, Int.neg_mul, ← Int.sub_eq_add_neg]
theorem lw_small {n : Int} (h : Sm n) : Lw n := lw_of (by obtain ⟨h1, h2⟩ := h; omega)
theorem lw_neg {n : Int} (h : Sm n) : Lw (-n) := lw_of (by obtain ⟨h1, h2⟩ := h; omega)
theorem lw_abs {n : Int} (h : Sm n) : Lw (if n < 0 then -n else n) := lw_of (by obtain ⟨h1, h2⟩ := h; split <;> omega)
theorem lw_prod {n t : Int} (h : Sm n) (h' : Sm t) : Lw (n * t) := lw_of (by have := Lw.mul h h'; omega)
theorem lw_plus {n u m t : Int} (h1 : Sm n) (h2 : Sm u) (h3 : Sm m) (h4 : Sm t) : Lw (n * t + m * u) := lw_of (by have := Lw.mul h1 h4; have := Lw.mul h3 h2; omega)
theorem lw_minus {n u m t : Int} (h1 : Sm n) (h2 : Sm u) (h3 : Sm m) (h4 : Sm t) : Lw (n * t - m * u) := lw_of (by have := Lw.mul h1 h4; have := Lw.mul h3 h2; omega)
section
variable {P : Program} {w : World} {K : PySem.W.Frag} {mg : Str → Option Value} {base : Heap} {a : Ad}
theorem ok__law_pair_right {fd : FuncData} (F : Fun K "_law_pair_right" "_law_pair_right" s__law_pair_right a._law_pair_right fd) (T : Txt K mg a)
    {fd__law_pair_of : FuncData} (G__law_pair_of : Fn P w K mg base CX0 1 a._law_pair_of fd__law_pair_of ["_law_made"] (spPo a.Ratio)) (b__law_pair_of : Binds K fd__law_pair_of ["_law_made"] [])
    {fd_Ratio___ge__ : FuncData} (G_Ratio___ge__ : FnOk P w K mg base CX0 5 a.Ratio___ge__ fd_Ratio___ge__ ["self", "other"] (spCmp a.Ratio cGe)) (b_Ratio___ge__ : Binds K fd_Ratio___ge__ ["self", "other"] [])
    {fd_Ratio___gt__ : FuncData} (G_Ratio___gt__ : FnOk P w K mg base CX0 5 a.Ratio___gt__ fd_Ratio___gt__ ["self", "other"] (spCmp a.Ratio cGt)) (b_Ratio___gt__ : Binds K fd_Ratio___gt__ ["self", "other"] [])
    {fd_Ratio___le__ : FuncData} (G_Ratio___le__ : FnOk P w K mg base CX0 5 a.Ratio___le__ fd_Ratio___le__ ["self", "other"] (spCmp a.Ratio cLe)) (b_Ratio___le__ : Binds K fd_Ratio___le__ ["self", "other"] [])
    {fd_Ratio___lt__ : FuncData} (G_Ratio___lt__ : FnOk P w K mg base CX0 5 a.Ratio___lt__ fd_Ratio___lt__ ["self", "other"] (spCmp a.Ratio cLt)) (b_Ratio___lt__ : Binds K fd_Ratio___lt__ ["self", "other"] [])
    {fd__law_order : FuncData} (G__law_order : Fn P w K mg base CX0 1 a._law_order fd__law_order ["_law_one", "_law_other"] spOrd) (b__law_order : Binds K fd__law_order ["_law_one", "_law_other"] [])
    {fd__law_pair : FuncData} (G__law_pair : Fn P w K mg base CX0 2 a._law_pair fd__law_pair ["_law_above", "_law_under"] spPair) (b__law_pair : Binds K fd__law_pair ["_law_above", "_law_under"] [])
    {fd_Ratio_divided : FuncData} (G_Ratio_divided : FnOk P w K mg base (L2.CX P w) 5 a.Ratio_divided fd_Ratio_divided ["self", "other"] (spDiv K a.Ratio a.BadRatio)) (b_Ratio_divided : Binds K fd_Ratio_divided ["self", "other"] [])
    {fd_Ratio___abs__ : FuncData} (G_Ratio___abs__ : FnOk P w K mg base CX0 4 a.Ratio___abs__ fd_Ratio___abs__ ["self"] (spUn a.Ratio fAbs)) (b_Ratio___abs__ : Binds K fd_Ratio___abs__ ["self"] [])
    {fd_Ratio___neg__ : FuncData} (G_Ratio___neg__ : FnOk P w K mg base CX0 4 a.Ratio___neg__ fd_Ratio___neg__ ["self"] (spUn a.Ratio fNeg)) (b_Ratio___neg__ : Binds K fd_Ratio___neg__ ["self"] [])
    {fd__law_product : FuncData} (G__law_product : Fn P w K mg base CX0 3 a._law_product fd__law_product ["_law_one", "_law_other"] spProd) (b__law_product : Binds K fd__law_product ["_law_one", "_law_other"] [])
    {fd_Ratio___mul__ : FuncData} (G_Ratio___mul__ : FnOk P w K mg base CX0 5 a.Ratio___mul__ fd_Ratio___mul__ ["self", "other"] (spBin a.Ratio fMul)) (b_Ratio___mul__ : Binds K fd_Ratio___mul__ ["self", "other"] [])
    {fd__law_sum : FuncData} (G__law_sum : Fn P w K mg base CX0 3 a._law_sum fd__law_sum ["_law_one", "_law_other", "_law_sign"] spSum) (b__law_sum : Binds K fd__law_sum ["_law_one", "_law_other", "_law_sign"] [])
    {fd_Ratio___sub__ : FuncData} (G_Ratio___sub__ : FnOk P w K mg base CX0 5 a.Ratio___sub__ fd_Ratio___sub__ ["self", "other"] (spBin a.Ratio fSub)) (b_Ratio___sub__ : Binds K fd_Ratio___sub__ ["self", "other"] [])
    {fd_Ratio___add__ : FuncData} (G_Ratio___add__ : FnOk P w K mg base CX0 5 a.Ratio___add__ fd_Ratio___add__ ["self", "other"] (spBin a.Ratio fAdd)) (b_Ratio___add__ : Binds K fd_Ratio___add__ ["self", "other"] [])
    {fd_Ratio___init__ : FuncData} (G_Ratio___init__ : FnOk P w K mg base CX0 2 a.Ratio___init__ fd_Ratio___init__ ["self", "number", "under"] (spInit K a.Ratio)) (b_Ratio___init__ : Binds K fd_Ratio___init__ ["self", "number", "under"] [])
    {ds_Ratio___init__ : List Value} (d_Ratio___init__ : Vals [.int 1] ds_Ratio___init__ ∧ Binds K fd_Ratio___init__ ["self", "number", "under"] ds_Ratio___init__) :
    Fn P w K mg base CX0 6 a._law_pair_right fd ["_law_one", "_law_other"] (spPr K) := by
  refine ok F sc__law_pair_right (fun vs H Q E h => ?len) (fun cdv A outer s H vs Q E hq hr h => ⟨_,
      (pss_cons (ps_par (i := 2) (j := 3) (by rfl) sc__law_pair_right.nd rfl rfl (by decide) rfl rfl (pa_cons (pe_make T.m_Ratio G_Ratio___init__ (hr.mono (by omega)) (by rfl) T.g_Ratio b_Ratio___init__ .nil pass0 (pa_cons (pe_ix ix_tup (pv 0) pe_int (fun _ _ => rfl)) (pa_cons (pe_ix ix_tup (pv 0) pe_int (fun _ _ => rfl)) pa_nil))) (pa_cons (pe_make T.m_Ratio G_Ratio___init__ (hr.mono (by omega)) (by rfl) T.g_Ratio b_Ratio___init__ .nil pass0 (pa_cons (pe_ix ix_tup (pv 1) pe_int (fun _ _ => rfl)) (pa_cons (pe_ix ix_tup (pv 1) pe_int (fun _ _ => rfl)) pa_nil))) pa_nil)) (by rfl))
      (pss_cons (ps_set (i := 4) sc__law_pair_right.nd rfl (Or.inl rfl) (pe_lstS (pa_cons (pe_tup (pa_cons (pe_op (op_binK T.o_add (fnR G_Ratio___add__ b_Ratio___add__) (hr.mono (by omega)) pass0) (pv 2) (pv 3)) (pa_cons (pe_fn G__law_sum hq (hr.mono (by omega)) (by rfl) T.g__law_sum T.k__law_sum b__law_sum .nil pass0 (pa_cons (pv 0) (pa_cons (pv 1) (pa_cons pe_int pa_nil)))) pa_nil))) (pa_cons (pe_tup (pa_cons (pe_op (op_binK T.o_sub (fnR G_Ratio___sub__ b_Ratio___sub__) (hr.mono (by omega)) pass0) (pv 2) (pv 3)) (pa_cons (pe_fn G__law_sum hq (hr.mono (by omega)) (by rfl) T.g__law_sum T.k__law_sum b__law_sum .nil pass0 (pa_cons (pv 0) (pa_cons (pv 1) (pa_cons (pe_un un_neg pe_int) pa_nil)))) pa_nil))) pa_nil))))
      (pss_cons (ps_set (i := 4) sc__law_pair_right.nd rfl (Or.inl rfl) (pe_op op_cat (pv 4) (pe_lstS (pa_cons (pe_tup (pa_cons (pe_op (op_binK T.o_mul (fnR G_Ratio___mul__ b_Ratio___mul__) (hr.mono (by omega)) pass0) (pv 2) (pv 3)) (pa_cons (pe_fn G__law_product hq (hr.mono (by omega)) (by rfl) T.g__law_product T.k__law_product b__law_product .nil pass0 (pa_cons (pv 0) (pa_cons (pv 1) pa_nil))) pa_nil))) (pa_cons (pe_tup (pa_cons (pe_un (un_negK T.neg T.negF (fnR G_Ratio___neg__ b_Ratio___neg__) (hr.mono (by omega)) pass0) (pv 2)) (pa_cons (pe_tup (pa_cons (pe_un un_neg (pe_ix ix_tup (pv 0) pe_int (fun _ _ => rfl))) (pa_cons (pe_ix ix_tup (pv 0) pe_int (fun _ _ => rfl)) pa_nil))) pa_nil))) pa_nil)))))
      (pss_cons (ps_expr (pe_bm PySem.F.plainAttrs_list PySem.F.slot_list_append PySem.F.type_list_append mt_append (pv 4) (pa_cons (pe_tup (pa_cons (pe_callB (call_absK T.absA T.absF (fnR G_Ratio___abs__ b_Ratio___abs__) (hr.mono (by omega)) pass0) (by rfl) T.n_abs (by decide +kernel) (pa_cons (pv 2) pa_nil)) (pa_cons (pe_tup (pa_cons (pe_callB call_abs (by rfl) T.n_abs (by decide +kernel) (pa_cons (pe_ix ix_tup (pv 0) pe_int (fun _ _ => rfl)) pa_nil)) (pa_cons (pe_ix ix_tup (pv 0) pe_int (fun _ _ => rfl)) pa_nil))) pa_nil))) pa_nil)))
      (Evl.pss_cut (ps_if (pt_cmpR op_ne (pe_ix ix_tup (pv 1) pe_int (fun _ _ => rfl)) pe_int (nomark _)) (pss_one (ps_expr (pe_bm PySem.F.plainAttrs_list PySem.F.slot_list_append PySem.F.type_list_append mt_append (pv 4) (pa_cons (pe_tup (pa_cons (pe_meth (pv 2) T.cl T.dv G_Ratio_divided (hr.mono (by omega)) b_Ratio_divided .nil passF (pa_cons (pv 3) pa_nil)) (pa_cons (pe_fn G__law_pair hq (hr.mono (by omega)) (by rfl) T.g__law_pair T.k__law_pair b__law_pair .nil pass0 (pa_cons (pe_op op_mul (pe_ix ix_tup (pv 0) pe_int (fun _ _ => rfl)) (pe_ix ix_tup (pv 1) pe_int (fun _ _ => rfl))) (pa_cons (pe_op op_mul (pe_ix ix_tup (pv 0) pe_int (fun _ _ => rfl)) (pe_ix ix_tup (pv 1) pe_int (fun _ _ => rfl))) pa_nil))) pa_nil))) pa_nil)))) pss_nil)
      (pss_cons (ps_if (pt_not (pt_val (pe_callB (cr_all rfl) (by rfl) T.n_all (by decide +kernel) (pa_cons (pe_lc (own := [("_law_row", 5)]) (g := gName 5) (tt := tYes) rfl sc__law_pair_right.nd (pi_list (pv 4)) (blkOk_by (own := [("_law_row", 5)]) (N := ["_law_one", "_law_other", "_law_made", "_law_its", "_law_rows", "_law_row"]) (sc := defScope s__law_pair_right) (by decide +kernel)) (fun _ _ _ _ _ => pg_name (i := 5) sc__law_pair_right.nd rfl (Or.inl rfl)) (fun _ _ _ _ _ => pts_nil) (fun _ _ _ _ _ => (pe_and (pe_callB (show CallR _ (.builtin "isinstance") (rIsi K) from call_isi) (by rfl) T.n_isinstance (by decide +kernel) (pa_cons (pe_ix (show IxR _ (rIxT K) from ix_tup) (pv 5) pe_int (fun _ _ => rfl)) (pa_cons (pe_glob (v := .ref a.Ratio) (by rfl) T.g_Ratio rfl) pa_nil))) (pe_one (pe_cmpR op_eq (pe_callB (call_reprL hq hr.units) (by rfl) T.n_repr (by decide +kernel) (pa_cons (pe_fn G__law_pair_of hq (hr.mono (by omega)) (by rfl) T.g__law_pair_of T.k__law_pair_of b__law_pair_of .nil pass0 (pa_cons (pe_ix (show IxR _ (rIxT K) from ix_tup) (pv 5) pe_int (fun _ _ => rfl)) pa_nil)) pa_nil)) (pe_callB (call_reprL hq hr.units) (by rfl) T.n_repr (by decide +kernel) (pa_cons (pe_ix (show IxR _ (rIxT K) from ix_tup) (pv 5) pe_int (fun _ _ => rfl)) pa_nil)) (nomark _)))))) pa_nil)))) (pss_one (ps_ret pe_bl)) pss_nil)
      (pss_cons (ps_if (pt_cmpR op_ne (pe_callB (call_reprL hq hr.units) (by rfl) T.n_repr (by decide +kernel) (pa_cons (pe_lstS (pa_cons (pe_cmpR (op_cmpK (fun _ _ => rfl) T.c_lt (fnR G_Ratio___lt__ b_Ratio___lt__) (hr.mono (by omega)) pass0) (pv 2) (pv 3) (nomark _)) (pa_cons (pe_cmpR (op_cmpK (fun _ _ => rfl) T.c_le (fnR G_Ratio___le__ b_Ratio___le__) (hr.mono (by omega)) pass0) (pv 2) (pv 3) (nomark _)) (pa_cons (pe_cmpR (op_cmpK (fun _ _ => rfl) T.c_gt (fnR G_Ratio___gt__ b_Ratio___gt__) (hr.mono (by omega)) pass0) (pv 2) (pv 3) (nomark _)) (pa_cons (pe_cmpR (op_cmpK (fun _ _ => rfl) T.c_ge (fnR G_Ratio___ge__ b_Ratio___ge__) (hr.mono (by omega)) pass0) (pv 2) (pv 3) (nomark _)) pa_nil))))) pa_nil)) (pe_callB (call_reprL hq hr.units) (by rfl) T.n_repr (by decide +kernel) (pa_cons (pe_fn G__law_order hq (hr.mono (by omega)) (by rfl) T.g__law_order T.k__law_order b__law_order .nil pass0 (pa_cons (pv 0) (pa_cons (pv 1) pa_nil))) pa_nil)) (nomark _)) (pss_one (ps_ret pe_bl)) pss_nil)
      (pss_one (ps_ret (pe_cmpR (op_eqD hr.units) (pe_tup (pa_cons (pe_fn G__law_pair_of hq (hr.mono (by omega)) (by rfl) T.g__law_pair_of T.k__law_pair_of b__law_pair_of .nil pass0 (pa_cons (pv 2) pa_nil)) (pa_cons (pe_fn G__law_pair_of hq (hr.mono (by omega)) (by rfl) T.g__law_pair_of T.k__law_pair_of b__law_pair_of .nil pass0 (pa_cons (pv 3) pa_nil)) pa_nil))) (pe_tup (pa_cons (pv 0) (pa_cons (pv 1) pa_nil))) (nomark _))))))))))), ?body⟩)
  case len => obtain ⟨v, w, n, u, m, t, rfl, _⟩ := h; rfl
  case body =>
    obtain ⟨v, w, n, u, m, t, rfl, ⟨x, rfl, hx⟩, ⟨y, rfl, hy⟩, rn, rm, sn, su, sm, st, q⟩ := h
    have un0 : u ≠ 0 := by have := rn.pos; omega
    have tn0 : t ≠ 0 := by have := rm.pos; omega
    have ut0 : u * t ≠ 0 := mulne rn.pos rm.pos
    refine ⟨_, rfl, _, _, _, _, rfl, rfl, SqT.of hx, rfl, _, rfl, _, _, _, _, rfl, rfl, SqT.of hx, rfl, ?_⟩
    intro a1 b1 c1 c2 c3
    refine mk_at un0 (small200 su) c1 c2 c3 fun H1 S1 r1 => ⟨rfl, ?_⟩
    rw [rn.same.1, rn.same.2] at r1
    have hy1 := S1 _ _ hy
    refine ⟨_, rfl, _, _, _, _, rfl, rfl, SqT.of hy1, rfl, _, rfl, _, _, _, _, rfl, rfl, SqT.of hy1, rfl, ?_⟩
    intro a2 b2 c4 c5 c6
    refine mk_at tn0 (small200 st) c4 c5 c6 fun H2 S2 r2 => ⟨rfl, ?_⟩
    rw [rm.same.1, rm.same.2] at r2
    refine ⟨_, _, rfl, ?_⟩
    have S02 : Same H H2 := S1.trans S2
    obtain ⟨c, dc, ec, hc⟩ := r1.same S2
    obtain rfl := V.ref.inj ec
    obtain ⟨d, dd, ed, hd⟩ := r2
    obtain rfl := V.ref.inj ed
    have mk1 : ∀ {H'}, Same H2 H' → RatAt a.Ratio H' (.ref a1) n u := fun S => ⟨a1, dc, rfl, S _ _ hc⟩
    have mk2 : ∀ {H'}, Same H2 H' → RatAt a.Ratio H' (.ref a2) m t := fun S => ⟨a2, dd, rfl, S _ _ hd⟩
    have pr1 : ∀ {H'}, Same H2 H' → PairAt H' (.ref x) n u := fun S => ⟨x, rfl, S _ _ (S02 _ _ hx)⟩
    have pr2 : ∀ {H'}, Same H2 H' → PairAt H' (.ref y) m t := fun S => ⟨y, rfl, S _ _ (S02 _ _ hy)⟩
    -- the sum
    refine ⟨_, rfl, _, rfl, a1, a2, _, _, _, _, rfl, rfl, hc, hd, _, _, n, u, m, t, rfl, mk1 (Same.refl _), .inr (mk2 (Same.refl _)), rn, rm, sn, su, sm, st, fun z3 H3 S3 r3 => ?_⟩
    refine ⟨_, rfl, _, rfl, _, _, n, u, m, t, 1, rfl, pr1 S3, pr2 S3, rn.pos, rm.pos, sn, su, sm, st, ⟨by decide, by decide⟩, fun p4 H4 f4 S4 q4 => ?_⟩
    rw [sum_add] at q4
    refine ⟨(by show 2 ≤ sizeLine; decide), fun t5 f5 => ?_⟩
    have row1 := row_mk f5 (r3.same S4) q4 (lw_num ut0 (lw_plus sn su sm st)) (lw_und ut0 (lw_prod su st))
    have S25 : Same H2 (upd H4 t5 (.tup [z3, .ref p4])) := (S3.trans S4).trans (same_new f5)
    -- the difference
    refine ⟨_, rfl, _, rfl, a1, a2, _, _, _, _, rfl, rfl, S25 _ _ hc, S25 _ _ hd, _, _, n, u, m, t, rfl, mk1 S25, .inr (mk2 S25), rn, rm, sn, su, sm, st, fun z6 H6 S6 r6 => ?_⟩
    have S26 := S25.trans S6
    refine ⟨_, rfl, _, rfl, _, rfl, _, _, n, u, m, t, -1, rfl, pr1 S26, pr2 S26, rn.pos, rm.pos, sn, su, sm, st, ⟨by decide, by decide⟩, fun p7 H7 f7 S7 q7 => ?_⟩
    rw [sum_sub] at q7
    refine ⟨(by show 2 ≤ sizeLine; decide), fun t8 f8 => ?_⟩
    have row2 := row_mk f8 (r6.same S7) q7 (lw_num ut0 (lw_minus sn su sm st)) (lw_und ut0 (lw_prod su st))
    have S58 : Same (upd H4 t5 (.tup [z3, .ref p4])) (upd H7 t8 (.tup [z6, .ref p7])) := (S6.trans S7).trans (same_new f8)
    have S28 := S25.trans S58
    refine ⟨(by show 2 ≤ sizeLine; decide), fun l9 f9 s9 => ?_⟩
    have S89 : ∀ o, Same (upd H7 t8 (.tup [z6, .ref p7])) (upd (upd H7 t8 (.tup [z6, .ref p7])) l9 o) := fun o => same_new f9
    have S29 := S28.trans (S89 (.lst [.ref t5, .ref t8]))
    have rows9 : ∀ x ∈ [V.ref t5, V.ref t8], RowOk a.Ratio (upd (upd H7 t8 (.tup [z6, .ref p7])) l9 (.lst [.ref t5, .ref t8])) x := by
      intro x hx
      simp only [List.mem_cons, List.not_mem_nil, or_false] at hx
      rcases hx with rfl | rfl
      · exact (row1.same S58).same (S89 _)
      · exact row2.same (S89 _)
    have l9' : (upd (upd H7 t8 (.tup [z6, .ref p7])) l9 (.lst [.ref t5, .ref t8])) l9 = some (.lst [.ref t5, .ref t8]) := upd_same
    generalize (upd (upd H7 t8 (.tup [z6, .ref p7])) l9 (.lst [.ref t5, .ref t8])) = H9 at S29 rows9 l9' ⊢
    -- the product, and the turned one
    refine ⟨_, rfl, _, rfl, _, rfl, a1, a2, _, _, _, _, rfl, rfl, S29 _ _ hc, S29 _ _ hd, _, _, n, u, m, t, rfl, mk1 S29, .inr (mk2 S29), rn, rm, sn, su, sm, st, fun z10 H10 S10 r10 => ?_⟩
    have S2a := S29.trans S10
    refine ⟨_, rfl, _, rfl, _, _, n, u, m, t, rfl, pr1 S2a, pr2 S2a, rn.pos, rm.pos, sn, su, sm, st, fun p11 H11 f11 S11 q11 => ?_⟩
    refine ⟨(by show 2 ≤ sizeLine; decide), fun t12 f12 => ?_⟩
    have row3 := row_mk f12 (r10.same S11) q11 (lw_num ut0 (lw_prod sn sm)) (lw_und ut0 (lw_prod su st))
    have S9c : Same H9 (upd H11 t12 (.tup [z10, .ref p11])) := (S10.trans S11).trans (same_new f12)
    have S2c := S29.trans S9c
    have l9c := S9c _ _ l9'
    have rows9c : ∀ x ∈ [V.ref t5, V.ref t8], RowOk a.Ratio (upd H11 t12 (.tup [z10, .ref p11])) x := fun x hx => (rows9 x hx).same S9c
    generalize (upd H11 t12 (.tup [z10, .ref p11])) = H12 at S2c l9c rows9c row3 ⊢
    refine ⟨_, rfl, a1, _, _, rfl, S2c _ _ hc, _, n, u, rfl, mk1 S2c, rn, su, fun z13 H13 S13 r13 => ?_⟩
    have hx13 := S13 _ _ (S2c _ _ (S02 _ _ hx))
    refine ⟨_, rfl, _, _, _, _, rfl, rfl, SqT.of hx13, rfl, _, rfl, _, rfl, _, _, _, _, rfl, rfl, SqT.of hx13, rfl, ?_⟩
    refine ⟨(by show 2 ≤ sizeLine; decide), fun t14 f14 => ⟨(by show 2 ≤ sizeLine; decide), fun t15 f15 => ?_⟩⟩
    have row4 := row_mk f15 (r13.same (same_new f14)) ⟨t14, rfl, upd_same⟩ (lw_neg sn) (lw_small su)
    have S15 : Same H12 (upd (upd H13 t14 (.tup [.int (-n), .int u])) t15 (.tup [z13, .ref t14])) := (S13.trans (same_new f14)).trans (same_new f15)
    have S215 := S2c.trans S15
    have l915 := S15 _ _ l9c
    have rows15 : ∀ x ∈ [V.ref t5, V.ref t8] ++ [V.ref t12, V.ref t15], RowOk a.Ratio (upd (upd H13 t14 (.tup [.int (-n), .int u])) t15 (.tup [z13, .ref t14])) x := by
      intro x hx
      simp only [List.mem_append, List.mem_cons, List.not_mem_nil, or_false] at hx
      rcases hx with (rfl | rfl) | (rfl | rfl)
      · exact (rows9c _ (by simp)).same S15
      · exact (rows9c _ (by simp)).same S15
      · exact row3.same S15
      · exact row4
    change RowOk a.Ratio (upd (upd H13 t14 (.tup [.int (-n), .int u])) t15 (.tup [z13, .ref t14])) (.ref t15) at row4
    generalize (upd (upd H13 t14 (.tup [.int (-n), .int u])) t15 (.tup [z13, .ref t14])) = H15 at S215 l915 rows15 ⊢
    refine ⟨(by show 2 ≤ sizeLine; decide), fun l16 f16 s16 => ?_⟩
    refine ⟨_, _, _, _, rfl, rfl, same_new f16 _ _ l915, upd_same, (by show 2 + 2 ≤ sizeLine; decide), fun l17 f17 => ?_⟩
    have S17 : Same H15 (upd (upd H15 l16 (.lst [.ref t12, .ref t15])) l17 (.lst ([.ref t5, .ref t8] ++ [.ref t12, .ref t15]))) := (same_new f16).trans (same_new f17)
    have S217 := S215.trans S17
    have rows17 := fun x hx => (rows15 x hx).same S17
    have l17' : (upd (upd H15 l16 (.lst [.ref t12, .ref t15])) l17 (.lst ([.ref t5, .ref t8] ++ [.ref t12, .ref t15]))) l17 = some (.lst ([.ref t5, .ref t8] ++ [.ref t12, .ref t15])) := upd_same
    have n17 : H2 l17 = none := by
      have z := S215.trans (same_new (o := .lst [.ref t12, .ref t15]) f16)
      exact z.free f17
    generalize (upd (upd H15 l16 (.lst [.ref t12, .ref t15])) l17 (.lst ([.ref t5, .ref t8] ++ [.ref t12, .ref t15]))) = H17 at S217 rows17 l17' ⊢
    -- the size alone
    refine ⟨_, rfl, .inl ⟨rfl, _, SqL.of l17'⟩, _, rfl, a1, _, _, rfl, S217 _ _ hc, _, n, u, rfl, mk1 S217, rn, su, fun z18 H18 S18 r18 => ?_⟩
    have hx18 := S18 _ _ (S217 _ _ (S02 _ _ hx))
    refine ⟨_, rfl, _, _, _, _, rfl, rfl, SqT.of hx18, rfl, _, rfl, _, rfl, _, _, _, _, rfl, rfl, SqT.of hx18, rfl, ?_⟩
    refine ⟨(by show 2 ≤ sizeLine; decide), fun t19 f19 => ⟨(by show 2 ≤ sizeLine; decide), fun t20 f20 => ?_⟩⟩
    have row5 := row_mk f20 (r18.same (same_new f19)) ⟨t19, rfl, upd_same⟩ (lw_abs sn) (lw_small su)
    have S20 : Same H17 (upd (upd H18 t19 (.tup [.int (if n < 0 then -n else n), .int u])) t20 (.tup [z18, .ref t19])) := (S18.trans (same_new f19)).trans (same_new f20)
    have S220 := S217.trans S20
    have rows20 := fun x hx => (rows17 x hx).same S20
    have l1720 := S20 _ _ l17'
    generalize (upd (upd H18 t19 (.tup [.int (if n < 0 then -n else n), .int u])) t20 (.tup [z18, .ref t19])) = H20 at S220 rows20 l1720 row5 ⊢
    refine ⟨_, _, _, rfl, rfl, l1720, (by show 4 < sizeLine; decide), ?_⟩
    refine ⟨fun σ' H' => ∃ xs, σ' = [some (.ref x), some (.ref y), some (.ref a1), some (.ref a2), some (.ref l17), none] ∧ Same H2 H' ∧ H' l17 = some (.lst xs) ∧ (∀ x ∈ xs, RowOk a.Ratio H' x) ∧ xs.length ≤ 10, ?first, ?rest⟩
    case first =>
      have S21 : Same H2 (upd H20 l17 (.lst ([.ref t5, .ref t8] ++ [.ref t12, .ref t15] ++ [.ref t20]))) := same_grow S220 n17
      have rows21 : ∀ x ∈ [V.ref t5, V.ref t8] ++ [V.ref t12, V.ref t15] ++ [V.ref t20], RowOk a.Ratio (upd H20 l17 (.lst ([.ref t5, .ref t8] ++ [.ref t12, .ref t15] ++ [.ref t20]))) x := by
        intro x hx
        rcases List.mem_append.mp hx with h | h
        · exact (rows20 x h).grow l1720
        · obtain rfl : x = .ref t20 := by simpa using h
          exact row5.grow l1720
      have l21 : (upd H20 l17 (.lst ([.ref t5, .ref t8] ++ [.ref t12, .ref t15] ++ [.ref t20]))) l17 = some (.lst ([.ref t5, .ref t8] ++ [.ref t12, .ref t15] ++ [.ref t20])) := upd_same
      generalize (upd H20 l17 (.lst ([.ref t5, .ref t8] ++ [.ref t12, .ref t15] ++ [.ref t20]))) = H21 at S21 rows21 l21 ⊢
      have hx21 := S21 _ _ (S02 _ _ hx)
      have hy21 := S21 _ _ (S02 _ _ hy)
      refine ⟨_, rfl, _, _, _, _, rfl, rfl, SqT.of hy21, rfl, rfl, _, rfl, ite2 (fun c => ?_) (fun c => ?_)⟩
      · have m0 : m ≠ 0 := by
          intro z
          rw [z] at c
          exact absurd c (by simp)
        have um0 : u * m ≠ 0 := Int.mul_ne_zero un0 m0
        refine ⟨_, rfl, .inl ⟨rfl, _, SqL.of l21⟩, _, rfl, a1, _, _, rfl, S21 _ _ hc, rfl, _, rfl, _, _, n, u, rfl, mk1 S21, .inl ⟨m, t, .inr (mk2 S21), m0, rn.pos, sn, su, sm, st, fun z22 H22 S22 r22 => ?_⟩⟩
        have hx22 := S22 _ _ hx21
        have hy22 := S22 _ _ hy21
        refine ⟨_, rfl, _, _, _, _, rfl, rfl, SqT.of hx22, rfl, _, rfl, _, _, _, _, rfl, rfl, SqT.of hy22, rfl, _, _, rfl, rfl, .inl sn, ?_⟩
        refine ⟨_, rfl, _, _, _, _, rfl, rfl, SqT.of hx22, rfl, _, rfl, _, _, _, _, rfl, rfl, SqT.of hy22, rfl, _, _, rfl, rfl, .inl su, ?_⟩
        refine ⟨_, _, rfl, um0, smul200 su sm, fun p23 H23 f23 S23 q23 => ⟨(by show 2 ≤ sizeLine; decide), fun t24 f24 => ?_⟩⟩
        have row6 := row_mk f24 (r22.same S23) q23 (lw_num um0 (lw_prod sn st)) (lw_und um0 (lw_prod su sm))
        have S24 : Same H21 (upd H23 t24 (.tup [z22, .ref p23])) := (S22.trans S23).trans (same_new f24)
        have l24 := S24 _ _ l21
        refine ⟨_, _, _, rfl, rfl, l24, (by show 5 < sizeLine; decide), ?_⟩
        refine ⟨_, rfl, same_grow (S21.trans S24) n17, upd_same, fun x hx => ?_, (by show 6 ≤ 10; decide)⟩
        rcases List.mem_append.mp hx with h | h
        · exact ((rows21 x h).same S24).grow l24
        · obtain rfl : x = .ref t24 := by simpa using h
          exact row6.grow l24
      · exact ⟨_, rfl, S21, l21, rows21, (by show 5 ≤ 10; decide)⟩
    case rest =>
      rintro σ' H3 ⟨xs, rfl, S, hl, rows, lx⟩
      refine ⟨_, rfl, l17, rfl, ⟨_, SqL.of hl⟩, fun D hD => ?_⟩
      refine lc_list (K := K) (a := l17) (xs := xs) (fun i H' => Same H3 H' ∧ H' D = some (.lst ((List.replicate i true).map V.bl)) ∧ i ≤ 10) ⟨same_new hD, upd_same, by decide⟩ (fun i H' _ ⟨S', _⟩ => SqL.of (S' _ _ hl)) ?_ ?_
      · rintro i x0 H' hi ⟨S', hd, i10⟩
        obtain ⟨hi1, _⟩ := List.getElem?_eq_some_iff.mp hi
        obtain ⟨t', r, q', n', u', rfl, ht, hr1, hq1, ln, lu⟩ := (rows x0 (List.mem_of_getElem? hi)).same S'
        obtain ⟨s1, s2, s3⟩ := pair_shown ln lu
        refine ⟨rfl, ?_⟩
        refine ⟨_, rfl, _, _, _, _, rfl, rfl, SqT.of ht, rfl, _, _, _, _, true, rfl, .own _, ratTy T hr1, T.ri.ks, true, rfl, iteT ?_⟩
        refine ⟨_, rfl, _, _, _, _, rfl, rfl, SqT.of ht, rfl, _, _, _, rfl, hr1, fun p5 H5 f5 S5 q5 => ⟨_, _, rfl, q5.da, s1, s2, s3, ?_⟩⟩
        refine ⟨_, rfl, _, _, _, _, rfl, rfl, SqT.of (S5 _ _ ht), rfl, _, _, rfl, (hq1.same S5).da, s1, s2, s3, rfl, ?_⟩
        rw [decide_eq_true (p := (V.str _ = V.str _)) rfl]
        have nD : ∀ b o, H3 b = some o → b ≠ D := fun b o e => ne_of_none e hD
        refine ⟨_, S5 _ _ hd, by rw [List.length_map, List.length_replicate, sizeLine_eq]; omega, fun b o e => ?_, ?_, ?_⟩
        · rw [upd_ne (nD b o e)]; exact S5 _ _ (S' _ _ e)
        · rw [upd_same, List.replicate_succ', List.map_append]; rfl
        · omega
      · rintro H' ⟨S', hD1, _⟩
        refine ⟨D, _, rfl, SqL.of hD1, _, rfl, ?_⟩
        have e : (List.replicate xs.length true).all id = true := by
          rw [List.all_eq_true]
          intro b hb
          obtain rfl := (List.mem_replicate.mp hb).2
          rfl
        rw [e]
        refine iteF ?_
        have S4 := S.trans S'
        refine ⟨_, rfl, _, rfl, a1, a2, _, _, _, _, rfl, rfl, S4 _ _ hc, S4 _ _ hd, _, _, n, u, m, t, rfl, mk1 S4, .inr (mk2 S4), sn, su, sm, st, fun H5 Z5 => ?_⟩
        have S5 := S4.trans Z5
        refine ⟨_, rfl, _, rfl, a1, a2, _, _, _, _, rfl, rfl, S5 _ _ hc, S5 _ _ hd, _, _, n, u, m, t, rfl, mk1 S5, .inr (mk2 S5), sn, su, sm, st, fun H6 Z6 => ?_⟩
        have S6 := S5.trans Z6
        refine ⟨_, rfl, _, rfl, a1, a2, _, _, _, _, rfl, rfl, S6 _ _ hc, S6 _ _ hd, _, _, n, u, m, t, rfl, mk1 S6, .inr (mk2 S6), sn, su, sm, st, fun H7 Z7 => ?_⟩
        have S7 := S6.trans Z7
        refine ⟨_, rfl, _, rfl, a1, a2, _, _, _, _, rfl, rfl, S7 _ _ hc, S7 _ _ hd, _, _, n, u, m, t, rfl, mk1 S7, .inr (mk2 S7), sn, su, sm, st, fun H8 Z8 => ?_⟩
        have S8 := S7.trans Z8
        have g4 := gdB_ok (bools4 (cLt (n * t - m * u)) (cLe (n * t - m * u)) (cGt (n * t - m * u)) (cGe (n * t - m * u)))
        refine ⟨(by show 4 ≤ sizeLine; decide), fun l9 f9 n9 => ?_⟩
        have S9 := S8.trans (same_new (o := .lst [.bl (cLt (n * t - m * u)), .bl (cLe (n * t - m * u)), .bl (cGt (n * t - m * u)), .bl (cGe (n * t - m * u))]) f9)
        refine ⟨_, _, rfl, .lst upd_same n9 (.cons (.bl _) (.cons (.bl _) (.cons (.bl _) (.cons (.bl _) .nil)))), g4.show_, Nat.le_trans g4.depth (by decide), g4.fits (by decide), ?_⟩
        refine ⟨_, rfl, _, rfl, _, _, n, u, m, t, rfl, pr1 S9, pr2 S9, sn, su, sm, st, fun l10 H10 f10 n10 Z10 e10 => ?_⟩
        have S10 := S9.trans Z10
        refine ⟨_, _, rfl, .lst e10 n10 (.cons (.bl _) (.cons (.bl _) (.cons (.bl _) (.cons (.bl _) .nil)))), g4.show_, Nat.le_trans g4.depth (by decide), g4.fits (by decide), rfl, _, rfl, iteNS rfl ?_⟩
        -- both stay as they are
        refine ⟨_, rfl, _, _, _, rfl, mk1 S10, fun p11 H11 f11 Z11 q11 => ?_⟩
        have S11 := S10.trans Z11
        refine ⟨_, rfl, _, _, _, rfl, mk2 S11, fun p12 H12 f12 Z12 q12 => ?_⟩
        have S12 := S11.trans Z12
        refine ⟨(by show 2 ≤ sizeLine; decide), fun t13 f13 => ⟨_, rfl, _, rfl, (by show 2 ≤ sizeLine; decide), fun t14 f14 => ?_⟩⟩
        have S14 : Same H12 (upd (upd H12 t13 (.tup [.ref p11, .ref p12])) t14 (.tup [.ref x, .ref y])) := (same_new f13).trans (same_new f14)
        have dp : ∀ {H : Hp} {v : V} {n u : Int}, PairAt H v n u → Dp K H v (.tuple [.int n, .int u]) := fun h => by
          obtain ⟨p, rfl, e⟩ := h
          exact .tup (SqT.of e) (.cons (.int _) (.cons (.int _) .nil))
        have sh : SeqAt.shaped (.tuple [.tuple [.int n, .int u], .tuple [.int m, .int t]]) = true := by
          show (PyData.canLay0 _ && decide (PyData.depth _ ≤ 64)) = true
          simp [PyData.canLay0, PyData.canLayAll0, PyData.depth, PyData.depthAll]
        refine ⟨.tuple [.tuple [.int n, .int u], .tuple [.int m, .int t]], .tuple [.tuple [.int n, .int u], .tuple [.int m, .int t]],
          .tup (SqT.of (same_new f14 _ _ upd_same)) (.cons (dp ((q11.same Z12).same S14)) (.cons (dp (q12.same S14)) .nil)), .tup (SqT.of upd_same) (.cons (dp (pr1 (S12.trans S14))) (.cons (dp (pr2 (S12.trans S14))) .nil)), sh, sh, ?_⟩
        rw [SeqAt.eqv_refl _ (SeqAt.canLay_of_shaped sh)]
        exact q _ (S02.trans (S12.trans S14))
end
end My

namespace My
open PySem PySem.Spec PyProof.Rows L2 G
abbrev s__law_whole_right : Stmt := topS 33
theorem sc__law_whole_right : FnScope ["_law_one", "_law_many", "_law_made", "_law_its", "_law_rows", "_law_row"] ["_law_one", "_law_many"] (defScope s__law_whole_right) := ⟨rfl, rfl, rfl, by decide +kernel, rfl, by decide +kernel, by decide +kernel⟩

def spWr (K : PySem.W.Frag) : Sp := fun vs H Q _ => ∃ v n u m, vs = [v, .int m] ∧ PairAt H v n u ∧ Red n u ∧ Sm n ∧ Sm u ∧ Sm m ∧ ∀ H', Same H H' → Q (.bl true) H'
theorem sw_lt (x y : Int) : cGt (x - y) = cLt (y - x) := by unfold cGt cLt; exact decide_eq_decide.mpr ⟨fun _ => by omega, fun _ => by omega⟩
theorem sw_le (x y : Int) : cGe (x - y) = cLe (y - x) := by unfold cGe cLe; exact decide_eq_decide.mpr ⟨fun _ => by omega, fun _ => by omega⟩
theorem sw_gt (x y : Int) : cLt (x - y) = cGt (y - x) := by unfold cGt cLt; exact decide_eq_decide.mpr ⟨fun _ => by omega, fun _ => by omega⟩
theorem sw_ge (x y : Int) : cLe (x - y) = cGe (y - x) := by unfold cGe cLe; exact decide_eq_decide.mpr ⟨fun _ => by omega, fun _ => by omega⟩
section
variable {P : Program} {w : World} {K : PySem.W.Frag} {mg : Str → Option Value} {base : Heap} {a : Ad}
theorem ok__law_whole_right {fd : FuncData} (F : Fun K "_law_whole_right" "_law_whole_right" s__law_whole_right a._law_whole_right fd) (T : Txt K mg a)
    {fd_Ratio___le__ : FuncData} (G_Ratio___le__ : FnOk P w K mg base CX0 5 a.Ratio___le__ fd_Ratio___le__ ["self", "other"] (spCmp a.Ratio cLe)) (b_Ratio___le__ : Binds K fd_Ratio___le__ ["self", "other"] [])
    {fd_Ratio___lt__ : FuncData} (G_Ratio___lt__ : FnOk P w K mg base CX0 5 a.Ratio___lt__ fd_Ratio___lt__ ["self", "other"] (spCmp a.Ratio cLt)) (b_Ratio___lt__ : Binds K fd_Ratio___lt__ ["self", "other"] [])
    {fd_Ratio___ge__ : FuncData} (G_Ratio___ge__ : FnOk P w K mg base CX0 5 a.Ratio___ge__ fd_Ratio___ge__ ["self", "other"] (spCmp a.Ratio cGe)) (b_Ratio___ge__ : Binds K fd_Ratio___ge__ ["self", "other"] [])
    {fd_Ratio___gt__ : FuncData} (G_Ratio___gt__ : FnOk P w K mg base CX0 5 a.Ratio___gt__ fd_Ratio___gt__ ["self", "other"] (spCmp a.Ratio cGt)) (b_Ratio___gt__ : Binds K fd_Ratio___gt__ ["self", "other"] [])
    {fd__law_order : FuncData} (G__law_order : Fn P w K mg base CX0 1 a._law_order fd__law_order ["_law_one", "_law_other"] spOrd) (b__law_order : Binds K fd__law_order ["_law_one", "_law_other"] [])
    {fd__law_pair_of : FuncData} (G__law_pair_of : Fn P w K mg base CX0 1 a._law_pair_of fd__law_pair_of ["_law_made"] (spPo a.Ratio)) (b__law_pair_of : Binds K fd__law_pair_of ["_law_made"] [])
    {fd__law_pair : FuncData} (G__law_pair : Fn P w K mg base CX0 2 a._law_pair fd__law_pair ["_law_above", "_law_under"] spPair) (b__law_pair : Binds K fd__law_pair ["_law_above", "_law_under"] [])
    {fd_Ratio_divided : FuncData} (G_Ratio_divided : FnOk P w K mg base (L2.CX P w) 5 a.Ratio_divided fd_Ratio_divided ["self", "other"] (spDiv K a.Ratio a.BadRatio)) (b_Ratio_divided : Binds K fd_Ratio_divided ["self", "other"] [])
    {fd__law_product : FuncData} (G__law_product : Fn P w K mg base CX0 3 a._law_product fd__law_product ["_law_one", "_law_other"] spProd) (b__law_product : Binds K fd__law_product ["_law_one", "_law_other"] [])
    {fd_Ratio___rmul__ : FuncData} (G_Ratio___rmul__ : FnOk P w K mg base CX0 6 a.Ratio___rmul__ fd_Ratio___rmul__ ["self", "other"] (spBinR a.Ratio fMul)) (b_Ratio___rmul__ : Binds K fd_Ratio___rmul__ ["self", "other"] [])
    {fd_Ratio___mul__ : FuncData} (G_Ratio___mul__ : FnOk P w K mg base CX0 5 a.Ratio___mul__ fd_Ratio___mul__ ["self", "other"] (spBin a.Ratio fMul)) (b_Ratio___mul__ : Binds K fd_Ratio___mul__ ["self", "other"] [])
    {fd__law_sum : FuncData} (G__law_sum : Fn P w K mg base CX0 3 a._law_sum fd__law_sum ["_law_one", "_law_other", "_law_sign"] spSum) (b__law_sum : Binds K fd__law_sum ["_law_one", "_law_other", "_law_sign"] [])
    {fd_Ratio___rsub__ : FuncData} (G_Ratio___rsub__ : FnOk P w K mg base CX0 6 a.Ratio___rsub__ fd_Ratio___rsub__ ["self", "other"] (spBinR a.Ratio fSub)) (b_Ratio___rsub__ : Binds K fd_Ratio___rsub__ ["self", "other"] [])
    {fd_Ratio___sub__ : FuncData} (G_Ratio___sub__ : FnOk P w K mg base CX0 5 a.Ratio___sub__ fd_Ratio___sub__ ["self", "other"] (spBin a.Ratio fSub)) (b_Ratio___sub__ : Binds K fd_Ratio___sub__ ["self", "other"] [])
    {fd_Ratio___radd__ : FuncData} (G_Ratio___radd__ : FnOk P w K mg base CX0 6 a.Ratio___radd__ fd_Ratio___radd__ ["self", "other"] (spBinR a.Ratio fAdd)) (b_Ratio___radd__ : Binds K fd_Ratio___radd__ ["self", "other"] [])
    {fd_Ratio___add__ : FuncData} (G_Ratio___add__ : FnOk P w K mg base CX0 5 a.Ratio___add__ fd_Ratio___add__ ["self", "other"] (spBin a.Ratio fAdd)) (b_Ratio___add__ : Binds K fd_Ratio___add__ ["self", "other"] [])
    {fd_Ratio___init__ : FuncData} (G_Ratio___init__ : FnOk P w K mg base CX0 2 a.Ratio___init__ fd_Ratio___init__ ["self", "number", "under"] (spInit K a.Ratio)) (b_Ratio___init__ : Binds K fd_Ratio___init__ ["self", "number", "under"] [])
    {ds_Ratio___init__ : List Value} (d_Ratio___init__ : Vals [.int 1] ds_Ratio___init__ ∧ Binds K fd_Ratio___init__ ["self", "number", "under"] ds_Ratio___init__) :
    Fn P w K mg base CX0 7 a._law_whole_right fd ["_law_one", "_law_many"] (spWr K) := by
  refine ok F sc__law_whole_right (fun vs H Q E h => ?len) (fun cdv A outer s H vs Q E hq hr h => ⟨_,
      (pss_cons (ps_par (i := 2) (j := 3) (by rfl) sc__law_whole_right.nd rfl rfl (by decide) rfl rfl (pa_cons (pe_make T.m_Ratio G_Ratio___init__ (hr.mono (by omega)) (by rfl) T.g_Ratio b_Ratio___init__ .nil pass0 (pa_cons (pe_ix ix_tup (pv 0) pe_int (fun _ _ => rfl)) (pa_cons (pe_ix ix_tup (pv 0) pe_int (fun _ _ => rfl)) pa_nil))) (pa_cons (pe_tup (pa_cons (pv 1) (pa_cons pe_int pa_nil))) pa_nil)) (by rfl))
      (pss_cons (ps_set (i := 4) sc__law_whole_right.nd rfl (Or.inl rfl) (pe_lstS (pa_cons (pe_tup (pa_cons (pe_op (op_binT T.o_add (fnR G_Ratio___add__ b_Ratio___add__) (hr.mono (by omega)) pass0) (pv 2) (pv 1)) (pa_cons (pe_fn G__law_sum hq (hr.mono (by omega)) (by rfl) T.g__law_sum T.k__law_sum b__law_sum .nil pass0 (pa_cons (pv 0) (pa_cons (pv 3) (pa_cons pe_int pa_nil)))) pa_nil))) (pa_cons (pe_tup (pa_cons (pe_op (op_binR T.o_add io_add (fnR G_Ratio___radd__ b_Ratio___radd__) (hr.mono (by omega)) pass0) (pv 1) (pv 2)) (pa_cons (pe_fn G__law_sum hq (hr.mono (by omega)) (by rfl) T.g__law_sum T.k__law_sum b__law_sum .nil pass0 (pa_cons (pv 0) (pa_cons (pv 3) (pa_cons pe_int pa_nil)))) pa_nil))) pa_nil))))
      (pss_cons (ps_set (i := 4) sc__law_whole_right.nd rfl (Or.inl rfl) (pe_op op_cat (pv 4) (pe_lstS (pa_cons (pe_tup (pa_cons (pe_op (op_binT T.o_sub (fnR G_Ratio___sub__ b_Ratio___sub__) (hr.mono (by omega)) pass0) (pv 2) (pv 1)) (pa_cons (pe_fn G__law_sum hq (hr.mono (by omega)) (by rfl) T.g__law_sum T.k__law_sum b__law_sum .nil pass0 (pa_cons (pv 0) (pa_cons (pv 3) (pa_cons (pe_un un_neg pe_int) pa_nil)))) pa_nil))) (pa_cons (pe_tup (pa_cons (pe_op (op_binR T.o_sub io_sub (fnR G_Ratio___rsub__ b_Ratio___rsub__) (hr.mono (by omega)) pass0) (pv 1) (pv 2)) (pa_cons (pe_fn G__law_sum hq (hr.mono (by omega)) (by rfl) T.g__law_sum T.k__law_sum b__law_sum .nil pass0 (pa_cons (pv 3) (pa_cons (pv 0) (pa_cons (pe_un un_neg pe_int) pa_nil)))) pa_nil))) pa_nil)))))
      (pss_cons (ps_set (i := 4) sc__law_whole_right.nd rfl (Or.inl rfl) (pe_op op_cat (pv 4) (pe_lstS (pa_cons (pe_tup (pa_cons (pe_op (op_binT T.o_mul (fnR G_Ratio___mul__ b_Ratio___mul__) (hr.mono (by omega)) pass0) (pv 2) (pv 1)) (pa_cons (pe_fn G__law_product hq (hr.mono (by omega)) (by rfl) T.g__law_product T.k__law_product b__law_product .nil pass0 (pa_cons (pv 0) (pa_cons (pv 3) pa_nil))) pa_nil))) (pa_cons (pe_tup (pa_cons (pe_op (op_binR T.o_mul io_mul (fnR G_Ratio___rmul__ b_Ratio___rmul__) (hr.mono (by omega)) pass0) (pv 1) (pv 2)) (pa_cons (pe_fn G__law_product hq (hr.mono (by omega)) (by rfl) T.g__law_product T.k__law_product b__law_product .nil pass0 (pa_cons (pv 0) (pa_cons (pv 3) pa_nil))) pa_nil))) pa_nil)))))
      (Evl.pss_cut (ps_if (pt_cmpR op_ne (pv 1) pe_int (nomark _)) (pss_one (ps_expr (pe_bm PySem.F.plainAttrs_list PySem.F.slot_list_append PySem.F.type_list_append mt_append (pv 4) (pa_cons (pe_tup (pa_cons (pe_meth (pv 2) T.cl T.dv G_Ratio_divided (hr.mono (by omega)) b_Ratio_divided .nil passF (pa_cons (pv 1) pa_nil)) (pa_cons (pe_fn G__law_pair hq (hr.mono (by omega)) (by rfl) T.g__law_pair T.k__law_pair b__law_pair .nil pass0 (pa_cons (pe_ix ix_tup (pv 0) pe_int (fun _ _ => rfl)) (pa_cons (pe_op op_mul (pe_ix ix_tup (pv 0) pe_int (fun _ _ => rfl)) (pv 1)) pa_nil))) pa_nil))) pa_nil)))) pss_nil)
      (pss_cons (ps_if (pt_not (pt_val (pe_callB (cr_all rfl) (by rfl) T.n_all (by decide +kernel) (pa_cons (pe_lc (own := [("_law_row", 5)]) (g := gName 5) (tt := tYes) rfl sc__law_whole_right.nd (pi_list (pv 4)) (blkOk_by (own := [("_law_row", 5)]) (N := ["_law_one", "_law_many", "_law_made", "_law_its", "_law_rows", "_law_row"]) (sc := defScope s__law_whole_right) (by decide +kernel)) (fun _ _ _ _ _ => pg_name (i := 5) sc__law_whole_right.nd rfl (Or.inl rfl)) (fun _ _ _ _ _ => pts_nil) (fun _ _ _ _ _ => (pe_and (pe_callB (show CallR _ (.builtin "isinstance") (rIsi K) from call_isi) (by rfl) T.n_isinstance (by decide +kernel) (pa_cons (pe_ix (show IxR _ (rIxT K) from ix_tup) (pv 5) pe_int (fun _ _ => rfl)) (pa_cons (pe_glob (v := .ref a.Ratio) (by rfl) T.g_Ratio rfl) pa_nil))) (pe_one (pe_cmpR op_eq (pe_callB (call_reprL hq hr.units) (by rfl) T.n_repr (by decide +kernel) (pa_cons (pe_fn G__law_pair_of hq (hr.mono (by omega)) (by rfl) T.g__law_pair_of T.k__law_pair_of b__law_pair_of .nil pass0 (pa_cons (pe_ix (show IxR _ (rIxT K) from ix_tup) (pv 5) pe_int (fun _ _ => rfl)) pa_nil)) pa_nil)) (pe_callB (call_reprL hq hr.units) (by rfl) T.n_repr (by decide +kernel) (pa_cons (pe_ix (show IxR _ (rIxT K) from ix_tup) (pv 5) pe_int (fun _ _ => rfl)) pa_nil)) (nomark _)))))) pa_nil)))) (pss_one (ps_ret pe_bl)) pss_nil)
      (pss_cons (ps_if (pt_cmpR op_ne (pe_callB (call_reprL hq hr.units) (by rfl) T.n_repr (by decide +kernel) (pa_cons (pe_lstS (pa_cons (pe_cmpR (op_cmpT (fun _ _ => rfl) T.c_lt (fnR G_Ratio___lt__ b_Ratio___lt__) (hr.mono (by omega)) pass0) (pv 2) (pv 1) (nomark _)) (pa_cons (pe_cmpR (op_cmpT (fun _ _ => rfl) T.c_le (fnR G_Ratio___le__ b_Ratio___le__) (hr.mono (by omega)) pass0) (pv 2) (pv 1) (nomark _)) (pa_cons (pe_cmpR (op_cmpT (fun _ _ => rfl) T.c_gt (fnR G_Ratio___gt__ b_Ratio___gt__) (hr.mono (by omega)) pass0) (pv 2) (pv 1) (nomark _)) (pa_cons (pe_cmpR (op_cmpT (fun _ _ => rfl) T.c_ge (fnR G_Ratio___ge__ b_Ratio___ge__) (hr.mono (by omega)) pass0) (pv 2) (pv 1) (nomark _)) pa_nil))))) pa_nil)) (pe_callB (call_reprL hq hr.units) (by rfl) T.n_repr (by decide +kernel) (pa_cons (pe_fn G__law_order hq (hr.mono (by omega)) (by rfl) T.g__law_order T.k__law_order b__law_order .nil pass0 (pa_cons (pv 0) (pa_cons (pv 3) pa_nil))) pa_nil)) (nomark _)) (pss_one (ps_ret pe_bl)) pss_nil)
      (pss_one (ps_ret (pe_cmpR op_eq (pe_callB (call_reprL hq hr.units) (by rfl) T.n_repr (by decide +kernel) (pa_cons (pe_lstS (pa_cons (pe_cmpR (op_cmpR (fun _ _ => rfl) T.c_lt ic_lt (fnR G_Ratio___gt__ b_Ratio___gt__) (hr.mono (by omega)) pass0) (pv 1) (pv 2) (nomark _)) (pa_cons (pe_cmpR (op_cmpR (fun _ _ => rfl) T.c_le ic_le (fnR G_Ratio___ge__ b_Ratio___ge__) (hr.mono (by omega)) pass0) (pv 1) (pv 2) (nomark _)) (pa_cons (pe_cmpR (op_cmpR (fun _ _ => rfl) T.c_gt ic_gt (fnR G_Ratio___lt__ b_Ratio___lt__) (hr.mono (by omega)) pass0) (pv 1) (pv 2) (nomark _)) (pa_cons (pe_cmpR (op_cmpR (fun _ _ => rfl) T.c_ge ic_ge (fnR G_Ratio___le__ b_Ratio___le__) (hr.mono (by omega)) pass0) (pv 1) (pv 2) (nomark _)) pa_nil))))) pa_nil)) (pe_callB (call_reprL hq hr.units) (by rfl) T.n_repr (by decide +kernel) (pa_cons (pe_fn G__law_order hq (hr.mono (by omega)) (by rfl) T.g__law_order T.k__law_order b__law_order .nil pass0 (pa_cons (pv 3) (pa_cons (pv 0) pa_nil))) pa_nil)) (nomark _))))))))))), ?body⟩)
  case len => obtain ⟨v, n, u, m, rfl, _⟩ := h; rfl
  case body =>
    obtain ⟨v, n, u, m, rfl, ⟨x, rfl, hx⟩, rn, sn, su, sm, q⟩ := h
    have rm : Red m 1 := red_int m
    have s1 : Sm 1 := ⟨by decide, by decide⟩
    have un0 : u ≠ 0 := by have := rn.pos; omega
    have ut0 : u * 1 ≠ 0 := by omega
    refine ⟨_, rfl, _, _, _, _, rfl, rfl, SqT.of hx, rfl, _, rfl, _, _, _, _, rfl, rfl, SqT.of hx, rfl, ?_⟩
    intro a1 b1 c1 c2 c3
    refine mk_at un0 (small200 su) c1 c2 c3 fun H1 S1 r1 => ⟨rfl, ?_⟩
    rw [rn.same.1, rn.same.2] at r1
    refine ⟨_, rfl, (by show 2 ≤ sizeLine; decide), fun y fy => ?_⟩
    refine ⟨_, _, rfl, ?_⟩
    have S1y : Same H1 (upd H1 y (.tup [.int m, .int 1])) := same_new fy
    obtain ⟨c, dc, ec, hc⟩ := r1.same S1y
    obtain rfl := V.ref.inj ec
    have hy : (upd H1 y (.tup [.int m, .int 1])) y = some (.tup [.int m, .int 1]) := upd_same
    have S02 := S1.trans S1y
    generalize (upd H1 y (.tup [.int m, .int 1])) = H2 at hc hy S02 ⊢
    have mk1 : ∀ {H'}, Same H2 H' → RatAt a.Ratio H' (.ref a1) n u := fun S => ⟨a1, dc, rfl, S _ _ hc⟩
    have mk2 : ∀ {H'}, NumAt a.Ratio H' (.int m) m 1 := .inl ⟨rfl, rfl⟩
    have pr1 : ∀ {H'}, Same H2 H' → PairAt H' (.ref x) n u := fun S => ⟨x, rfl, S _ _ (S02 _ _ hx)⟩
    have pr2 : ∀ {H'}, Same H2 H' → PairAt H' (.ref y) m 1 := fun S => ⟨y, rfl, S _ _ hy⟩
    have tu0 : 1 * u ≠ 0 := by omega
    have Sc : Same H2 H2 := Same.refl H2
    refine ⟨_, rfl, _, rfl, a1, _, _, m, rfl, rfl, Sc _ _ hc, _, _, n, u, m, 1, rfl, mk1 Sc, mk2, rn, rm, sn, su, sm, s1, fun z0 G0 A0 r0 => ?_⟩
    have Sd := Sc.trans A0
    refine ⟨_, rfl, _, rfl, _, _, n, u, m, 1, 1, rfl, pr1 Sd, pr2 Sd, rn.pos, rm.pos, sn, su, sm, s1, ⟨by decide, by decide⟩, fun p0 K0 f0 B0 q0 => ?_⟩
    rw [sum_add] at q0
    refine ⟨(by show 2 ≤ sizeLine; decide), fun t0 g0 => ?_⟩
    have ρ0 := row_mk g0 (r0.same B0) q0 (lw_num ut0 (lw_plus sn su sm s1)) (lw_und ut0 (lw_prod su s1))
    have Sx : Same H2 (upd K0 t0 (.tup [z0, .ref p0])) := (A0.trans B0).trans (same_new g0)
    replace Sc := Sc.trans Sx
    clear Sx Sd
    generalize (upd K0 t0 (.tup [z0, .ref p0])) = N0 at ρ0 Sc ⊢
    refine ⟨_, rfl, _, rfl, a1, _, _, m, rfl, rfl, Sc _ _ hc, _, _, n, u, m, 1, rfl, mk1 Sc, mk2, rn, rm, sn, su, sm, s1, fun z1 G1 A1 r1 => ?_⟩
    have Sd := Sc.trans A1
    refine ⟨_, rfl, _, rfl, _, _, n, u, m, 1, 1, rfl, pr1 Sd, pr2 Sd, rn.pos, rm.pos, sn, su, sm, s1, ⟨by decide, by decide⟩, fun p1 K1 f1 B1 q1 => ?_⟩
    rw [sum_add, Int.add_comm (n * 1), Int.mul_comm u 1] at q1
    refine ⟨(by show 2 ≤ sizeLine; decide), fun t1 g1 => ?_⟩
    have ρ1 := row_mk g1 (r1.same B1) q1 (lw_num tu0 (lw_plus sm s1 sn su)) (lw_und tu0 (lw_prod s1 su))
    have Sx : Same N0 (upd K1 t1 (.tup [z1, .ref p1])) := (A1.trans B1).trans (same_new g1)
    replace ρ0 := ρ0.same Sx
    replace Sc := Sc.trans Sx
    clear Sx Sd
    generalize (upd K1 t1 (.tup [z1, .ref p1])) = N1 at ρ1 ρ0 Sc ⊢
    refine ⟨(by show 2 ≤ sizeLine; decide), fun l0 h0 e0 => ?_⟩
    have Sx : Same N1 (upd N1 l0 (.lst [V.ref t0, V.ref t1])) := same_new h0
    have ln : (upd N1 l0 (.lst [V.ref t0, V.ref t1])) l0 = some (.lst [V.ref t0, V.ref t1]) := upd_same
    have rn0 : ∀ x ∈ [V.ref t0, V.ref t1], RowOk a.Ratio (upd N1 l0 (.lst [V.ref t0, V.ref t1])) x := by
      intro x hx
      simp only [List.mem_cons, List.not_mem_nil, or_false] at hx
      rcases hx with rfl | rfl
      · exact ρ0.same Sx
      · exact ρ1.same Sx
    have nl : H2 l0 = none := Sc.free h0
    replace Sc := Sc.trans Sx
    clear Sx ρ0 ρ1
    generalize (upd N1 l0 (.lst [V.ref t0, V.ref t1])) = M0 at Sc ln rn0 ⊢
    have lf := ln
    have rl := rn0
    clear ln rn0
    refine ⟨_, rfl, _, rfl, _, rfl, a1, _, _, m, rfl, rfl, Sc _ _ hc, _, _, n, u, m, 1, rfl, mk1 Sc, mk2, rn, rm, sn, su, sm, s1, fun z2 G2 A2 r2 => ?_⟩
    have Sd := Sc.trans A2
    refine ⟨_, rfl, _, rfl, _, rfl, _, _, n, u, m, 1, -1, rfl, pr1 Sd, pr2 Sd, rn.pos, rm.pos, sn, su, sm, s1, ⟨by decide, by decide⟩, fun p2 K2 f2 B2 q2 => ?_⟩
    rw [sum_sub] at q2
    refine ⟨(by show 2 ≤ sizeLine; decide), fun t2 g2 => ?_⟩
    have ρ2 := row_mk g2 (r2.same B2) q2 (lw_num ut0 (lw_minus sn su sm s1)) (lw_und ut0 (lw_prod su s1))
    have Sx : Same M0 (upd K2 t2 (.tup [z2, .ref p2])) := (A2.trans B2).trans (same_new g2)
    replace lf := Sx _ _ lf
    replace rl := fun x hx => (rl x hx).same Sx
    replace Sc := Sc.trans Sx
    clear Sx Sd
    generalize (upd K2 t2 (.tup [z2, .ref p2])) = N2 at ρ2 lf rl Sc ⊢
    refine ⟨_, rfl, _, rfl, a1, _, _, m, rfl, rfl, Sc _ _ hc, _, _, n, u, m, 1, rfl, mk1 Sc, mk2, rn, rm, sn, su, sm, s1, fun z3 G3 A3 r3 => ?_⟩
    have Sd := Sc.trans A3
    refine ⟨_, rfl, _, rfl, _, rfl, _, _, m, 1, n, u, -1, rfl, pr2 Sd, pr1 Sd, rm.pos, rn.pos, sm, s1, sn, su, ⟨by decide, by decide⟩, fun p3 K3 f3 B3 q3 => ?_⟩
    rw [sum_sub] at q3
    refine ⟨(by show 2 ≤ sizeLine; decide), fun t3 g3 => ?_⟩
    have ρ3 := row_mk g3 (r3.same B3) q3 (lw_num tu0 (lw_minus sm s1 sn su)) (lw_und tu0 (lw_prod s1 su))
    have Sx : Same N2 (upd K3 t3 (.tup [z3, .ref p3])) := (A3.trans B3).trans (same_new g3)
    replace ρ2 := ρ2.same Sx
    replace lf := Sx _ _ lf
    replace rl := fun x hx => (rl x hx).same Sx
    replace Sc := Sc.trans Sx
    clear Sx Sd
    generalize (upd K3 t3 (.tup [z3, .ref p3])) = N3 at ρ3 ρ2 lf rl Sc ⊢
    refine ⟨(by show 2 ≤ sizeLine; decide), fun l1 h1 e1 => ?_⟩
    have Sx : Same N3 (upd N3 l1 (.lst [V.ref t2, V.ref t3])) := same_new h1
    have ln : (upd N3 l1 (.lst [V.ref t2, V.ref t3])) l1 = some (.lst [V.ref t2, V.ref t3]) := upd_same
    have rn1 : ∀ x ∈ [V.ref t2, V.ref t3], RowOk a.Ratio (upd N3 l1 (.lst [V.ref t2, V.ref t3])) x := by
      intro x hx
      simp only [List.mem_cons, List.not_mem_nil, or_false] at hx
      rcases hx with rfl | rfl
      · exact ρ2.same Sx
      · exact ρ3.same Sx
    replace lf := Sx _ _ lf
    replace rl := fun x hx => (rl x hx).same Sx
    have nl : H2 l1 = none := Sc.free h1
    replace Sc := Sc.trans Sx
    clear Sx ρ2 ρ3
    generalize (upd N3 l1 (.lst [V.ref t2, V.ref t3])) = M1 at Sc ln rn1 lf rl ⊢
    refine ⟨_, _, _, _, rfl, rfl, lf, ln, (by show 2 + 2 ≤ sizeLine; decide), fun c1 d1 => ?_⟩
    have Sx : Same M1 (upd M1 c1 (.lst ([V.ref t0, V.ref t1] ++ [V.ref t2, V.ref t3]))) := same_new d1
    have l2 : (upd M1 c1 (.lst ([V.ref t0, V.ref t1] ++ [V.ref t2, V.ref t3]))) c1 = some (.lst ([V.ref t0, V.ref t1] ++ [V.ref t2, V.ref t3])) := upd_same
    have r2 : ∀ x ∈ [V.ref t0, V.ref t1] ++ [V.ref t2, V.ref t3], RowOk a.Ratio (upd M1 c1 (.lst ([V.ref t0, V.ref t1] ++ [V.ref t2, V.ref t3]))) x := fun x hx => ((List.mem_append.mp hx).elim (rl x) (rn1 x)).same Sx
    have nl := Sc.free d1
    replace Sc := Sc.trans Sx
    clear Sx lf rl ln rn1
    generalize (upd M1 c1 (.lst ([V.ref t0, V.ref t1] ++ [V.ref t2, V.ref t3]))) = C1 at Sc l2 r2 ⊢
    have lf := l2
    have rl := r2
    clear l2 r2
    refine ⟨_, rfl, _, rfl, _, rfl, a1, _, _, m, rfl, rfl, Sc _ _ hc, _, _, n, u, m, 1, rfl, mk1 Sc, mk2, rn, rm, sn, su, sm, s1, fun z4 G4 A4 r4 => ?_⟩
    have Sd := Sc.trans A4
    refine ⟨_, rfl, _, rfl, _, _, n, u, m, 1, rfl, pr1 Sd, pr2 Sd, rn.pos, rm.pos, sn, su, sm, s1, fun p4 K4 f4 B4 q4 => ?_⟩
    skip
    refine ⟨(by show 2 ≤ sizeLine; decide), fun t4 g4 => ?_⟩
    have ρ4 := row_mk g4 (r4.same B4) q4 (lw_num ut0 (lw_prod sn sm)) (lw_und ut0 (lw_prod su s1))
    have Sx : Same C1 (upd K4 t4 (.tup [z4, .ref p4])) := (A4.trans B4).trans (same_new g4)
    replace lf := Sx _ _ lf
    replace rl := fun x hx => (rl x hx).same Sx
    replace Sc := Sc.trans Sx
    clear Sx Sd
    generalize (upd K4 t4 (.tup [z4, .ref p4])) = N4 at ρ4 lf rl Sc ⊢
    refine ⟨_, rfl, _, rfl, a1, _, _, m, rfl, rfl, Sc _ _ hc, _, _, n, u, m, 1, rfl, mk1 Sc, mk2, rn, rm, sn, su, sm, s1, fun z5 G5 A5 r5 => ?_⟩
    have Sd := Sc.trans A5
    refine ⟨_, rfl, _, rfl, _, _, n, u, m, 1, rfl, pr1 Sd, pr2 Sd, rn.pos, rm.pos, sn, su, sm, s1, fun p5 K5 f5 B5 q5 => ?_⟩
    rw [Int.mul_comm n m, Int.mul_comm u 1] at q5
    refine ⟨(by show 2 ≤ sizeLine; decide), fun t5 g5 => ?_⟩
    have ρ5 := row_mk g5 (r5.same B5) q5 (lw_num tu0 (lw_prod sm sn)) (lw_und tu0 (lw_prod s1 su))
    have Sx : Same N4 (upd K5 t5 (.tup [z5, .ref p5])) := (A5.trans B5).trans (same_new g5)
    replace ρ4 := ρ4.same Sx
    replace lf := Sx _ _ lf
    replace rl := fun x hx => (rl x hx).same Sx
    replace Sc := Sc.trans Sx
    clear Sx Sd
    generalize (upd K5 t5 (.tup [z5, .ref p5])) = N5 at ρ5 ρ4 lf rl Sc ⊢
    refine ⟨(by show 2 ≤ sizeLine; decide), fun l2 h2 e2 => ?_⟩
    have Sx : Same N5 (upd N5 l2 (.lst [V.ref t4, V.ref t5])) := same_new h2
    have ln : (upd N5 l2 (.lst [V.ref t4, V.ref t5])) l2 = some (.lst [V.ref t4, V.ref t5]) := upd_same
    have rn2 : ∀ x ∈ [V.ref t4, V.ref t5], RowOk a.Ratio (upd N5 l2 (.lst [V.ref t4, V.ref t5])) x := by
      intro x hx
      simp only [List.mem_cons, List.not_mem_nil, or_false] at hx
      rcases hx with rfl | rfl
      · exact ρ4.same Sx
      · exact ρ5.same Sx
    replace lf := Sx _ _ lf
    replace rl := fun x hx => (rl x hx).same Sx
    have nl : H2 l2 = none := Sc.free h2
    replace Sc := Sc.trans Sx
    clear Sx ρ4 ρ5
    generalize (upd N5 l2 (.lst [V.ref t4, V.ref t5])) = M2 at Sc ln rn2 lf rl ⊢
    refine ⟨_, _, _, _, rfl, rfl, lf, ln, (by show 4 + 2 ≤ sizeLine; decide), fun c2 d2 => ?_⟩
    have Sx : Same M2 (upd M2 c2 (.lst ([V.ref t0, V.ref t1] ++ [V.ref t2, V.ref t3] ++ [V.ref t4, V.ref t5]))) := same_new d2
    have l2 : (upd M2 c2 (.lst ([V.ref t0, V.ref t1] ++ [V.ref t2, V.ref t3] ++ [V.ref t4, V.ref t5]))) c2 = some (.lst ([V.ref t0, V.ref t1] ++ [V.ref t2, V.ref t3] ++ [V.ref t4, V.ref t5])) := upd_same
    have r2 : ∀ x ∈ [V.ref t0, V.ref t1] ++ [V.ref t2, V.ref t3] ++ [V.ref t4, V.ref t5], RowOk a.Ratio (upd M2 c2 (.lst ([V.ref t0, V.ref t1] ++ [V.ref t2, V.ref t3] ++ [V.ref t4, V.ref t5]))) x := fun x hx => ((List.mem_append.mp hx).elim (rl x) (rn2 x)).same Sx
    have nl := Sc.free d2
    replace Sc := Sc.trans Sx
    clear Sx lf rl ln rn2
    generalize (upd M2 c2 (.lst ([V.ref t0, V.ref t1] ++ [V.ref t2, V.ref t3] ++ [V.ref t4, V.ref t5]))) = C2 at Sc l2 r2 ⊢
    have lf := l2
    have rl := r2
    clear l2 r2
    refine ⟨fun σ' H' => ∃ xs, σ' = [some (.ref x), some (.int m), some (.ref a1), some (.ref y), some (.ref c2), none] ∧ Same H2 H' ∧ H' c2 = some (.lst xs) ∧ (∀ x ∈ xs, RowOk a.Ratio H' x) ∧ xs.length ≤ 10, ?first, ?rest⟩
    case first =>
      have hx21 := Sc _ _ (S02 _ _ hx)
      refine ⟨_, rfl, rfl, _, rfl, ite2 (fun c => ?_) (fun c => ?_)⟩
      · have m0 : m ≠ 0 := by
          intro z
          rw [z] at c
          exact absurd c (by simp)
        have um0 : u * m ≠ 0 := Int.mul_ne_zero un0 m0
        refine ⟨_, rfl, .inl ⟨rfl, _, SqL.of lf⟩, _, rfl, a1, _, _, rfl, Sc _ _ hc, rfl, _, rfl, _, _, n, u, rfl, mk1 Sc, .inl ⟨m, 1, mk2, m0, rn.pos, sn, su, sm, s1, fun z22 H22 S22 r22 => ?_⟩⟩
        rw [Int.mul_one] at r22
        have hx22 := S22 _ _ hx21
        refine ⟨_, rfl, _, _, _, _, rfl, rfl, SqT.of hx22, rfl, _, rfl, _, _, _, _, rfl, rfl, SqT.of hx22, rfl, _, rfl, _, _, rfl, rfl, .inl su, ?_⟩
        refine ⟨_, _, rfl, um0, smul200 su sm, fun p23 H23 f23 S23 q23 => ⟨(by show 2 ≤ sizeLine; decide), fun t24 f24 => ?_⟩⟩
        have row6 := row_mk f24 (r22.same S23) q23 (lw_num um0 (lw_small sn)) (lw_und um0 (lw_prod su sm))
        have S24 : Same C2 (upd H23 t24 (.tup [z22, .ref p23])) := (S22.trans S23).trans (same_new f24)
        have l24 := S24 _ _ lf
        refine ⟨_, _, _, rfl, rfl, l24, (by show 6 < sizeLine; decide), ?_⟩
        refine ⟨_, rfl, same_grow (Sc.trans S24) nl, upd_same, fun x hx => ?_, (by show 7 ≤ 10; decide)⟩
        rcases List.mem_append.mp hx with h | h
        · exact ((rl x h).same S24).grow l24
        · obtain rfl : x = .ref t24 := by simpa using h
          exact row6.grow l24
      · exact ⟨_, rfl, Sc, lf, rl, (by show 6 ≤ 10; decide)⟩
    case rest => 
      rintro σ' H3 ⟨xs, rfl, S, hl, rows, lx⟩
      refine ⟨_, rfl, c2, rfl, ⟨_, SqL.of hl⟩, fun D hD => ?_⟩
      refine lc_list (K := K) (a := c2) (xs := xs) (fun i H' => Same H3 H' ∧ H' D = some (.lst ((List.replicate i true).map V.bl)) ∧ i ≤ 10) ⟨same_new hD, upd_same, by decide⟩ (fun i H' _ ⟨S', _⟩ => SqL.of (S' _ _ hl)) ?_ ?_
      · rintro i x0 H' hi ⟨S', hd, i10⟩
        obtain ⟨hi1, _⟩ := List.getElem?_eq_some_iff.mp hi
        obtain ⟨t', r, q', n', u', rfl, ht, hr1, hq1, ln, lu⟩ := (rows x0 (List.mem_of_getElem? hi)).same S'
        obtain ⟨s1, s2, s3⟩ := pair_shown ln lu
        refine ⟨rfl, ?_⟩
        refine ⟨_, rfl, _, _, _, _, rfl, rfl, SqT.of ht, rfl, _, _, _, _, true, rfl, .own _, ratTy T hr1, T.ri.ks, true, rfl, iteT ?_⟩
        refine ⟨_, rfl, _, _, _, _, rfl, rfl, SqT.of ht, rfl, _, _, _, rfl, hr1, fun p5 H5 f5 S5 q5 => ⟨_, _, rfl, q5.da, s1, s2, s3, ?_⟩⟩
        refine ⟨_, rfl, _, _, _, _, rfl, rfl, SqT.of (S5 _ _ ht), rfl, _, _, rfl, (hq1.same S5).da, s1, s2, s3, rfl, ?_⟩
        rw [decide_eq_true (p := (V.str _ = V.str _)) rfl]
        have nD : ∀ b o, H3 b = some o → b ≠ D := fun b o e => ne_of_none e hD
        refine ⟨_, S5 _ _ hd, by rw [List.length_map, List.length_replicate, sizeLine_eq]; omega, fun b o e => ?_, ?_, ?_⟩
        · rw [upd_ne (nD b o e)]; exact S5 _ _ (S' _ _ e)
        · rw [upd_same, List.replicate_succ', List.map_append]; rfl
        · omega
      · rintro H' ⟨S', hD1, _⟩
        refine ⟨D, _, rfl, SqL.of hD1, _, rfl, ?_⟩
        have e : (List.replicate xs.length true).all id = true := by
          rw [List.all_eq_true]
          intro b hb
          obtain rfl := (List.mem_replicate.mp hb).2
          rfl
        rw [e]
        refine iteF ?_
        have S4 := S.trans S'
        refine ⟨_, rfl, _, rfl, a1, _, _, m, rfl, rfl, S4 _ _ hc, _, _, n, u, m, 1, rfl, mk1 S4, mk2, sn, su, sm, s1, fun H5 Z5 => ?_⟩
        have S5 := S4.trans Z5
        refine ⟨_, rfl, _, rfl, a1, _, _, m, rfl, rfl, S5 _ _ hc, _, _, n, u, m, 1, rfl, mk1 S5, mk2, sn, su, sm, s1, fun H6 Z6 => ?_⟩
        have S6 := S5.trans Z6
        refine ⟨_, rfl, _, rfl, a1, _, _, m, rfl, rfl, S6 _ _ hc, _, _, n, u, m, 1, rfl, mk1 S6, mk2, sn, su, sm, s1, fun H7 Z7 => ?_⟩
        have S7 := S6.trans Z7
        refine ⟨_, rfl, _, rfl, a1, _, _, m, rfl, rfl, S7 _ _ hc, _, _, n, u, m, 1, rfl, mk1 S7, mk2, sn, su, sm, s1, fun H8 Z8 => ?_⟩
        have S8 := S7.trans Z8
        have g4 := gdB_ok (bools4 (cLt (n * 1 - m * u)) (cLe (n * 1 - m * u)) (cGt (n * 1 - m * u)) (cGe (n * 1 - m * u)))
        refine ⟨(by show 4 ≤ sizeLine; decide), fun l9 f9 n9 => ?_⟩
        have S9 := S8.trans (same_new (o := .lst [.bl (cLt (n * 1 - m * u)), .bl (cLe (n * 1 - m * u)), .bl (cGt (n * 1 - m * u)), .bl (cGe (n * 1 - m * u))]) f9)
        refine ⟨_, _, rfl, .lst upd_same n9 (.cons (.bl _) (.cons (.bl _) (.cons (.bl _) (.cons (.bl _) .nil)))), g4.show_, Nat.le_trans g4.depth (by decide), g4.fits (by decide), ?_⟩
        refine ⟨_, rfl, _, rfl, _, _, n, u, m, 1, rfl, pr1 S9, pr2 S9, sn, su, sm, s1, fun l10 H10 f10 n10 Z10 e10 => ?_⟩
        have S10 := S9.trans Z10
        refine ⟨_, _, rfl, .lst e10 n10 (.cons (.bl _) (.cons (.bl _) (.cons (.bl _) (.cons (.bl _) .nil)))), g4.show_, Nat.le_trans g4.depth (by decide), g4.fits (by decide), rfl, _, rfl, iteNS rfl ?_⟩
        have S20 := S10
        refine ⟨_, rfl, _, rfl, a1, _, _, m, rfl, rfl, S20 _ _ hc, _, _, n, u, m, 1, rfl, mk1 S20, mk2, sn, su, sm, s1, fun H21 Z21 => ?_⟩
        have S21 := S20.trans Z21
        refine ⟨_, rfl, _, rfl, a1, _, _, m, rfl, rfl, S21 _ _ hc, _, _, n, u, m, 1, rfl, mk1 S21, mk2, sn, su, sm, s1, fun H22 Z22 => ?_⟩
        have S22 := S21.trans Z22
        refine ⟨_, rfl, _, rfl, a1, _, _, m, rfl, rfl, S22 _ _ hc, _, _, n, u, m, 1, rfl, mk1 S22, mk2, sn, su, sm, s1, fun H23 Z23 => ?_⟩
        have S23 := S22.trans Z23
        refine ⟨_, rfl, _, rfl, a1, _, _, m, rfl, rfl, S23 _ _ hc, _, _, n, u, m, 1, rfl, mk1 S23, mk2, sn, su, sm, s1, fun H24 Z24 => ?_⟩
        have S24 := S23.trans Z24
        have g5 := gdB_ok (bools4 (cGt (n * 1 - m * u)) (cGe (n * 1 - m * u)) (cLt (n * 1 - m * u)) (cLe (n * 1 - m * u)))
        refine ⟨(by show 4 ≤ sizeLine; decide), fun l25 f25 n25 => ?_⟩
        have S25 := S24.trans (same_new (o := .lst [.bl (cGt (n * 1 - m * u)), .bl (cGe (n * 1 - m * u)), .bl (cLt (n * 1 - m * u)), .bl (cLe (n * 1 - m * u))]) f25)
        refine ⟨_, _, rfl, .lst upd_same n25 (.cons (.bl _) (.cons (.bl _) (.cons (.bl _) (.cons (.bl _) .nil)))), g5.show_, Nat.le_trans g5.depth (by decide), g5.fits (by decide), ?_⟩
        refine ⟨_, rfl, _, rfl, _, _, m, 1, n, u, rfl, pr2 S25, pr1 S25, sm, s1, sn, su, fun l26 H26 f26 n26 Z26 e26 => ?_⟩
        have g6 := gdB_ok (bools4 (cLt (m * u - n * 1)) (cLe (m * u - n * 1)) (cGt (m * u - n * 1)) (cGe (m * u - n * 1)))
        refine ⟨_, _, rfl, .lst e26 n26 (.cons (.bl _) (.cons (.bl _) (.cons (.bl _) (.cons (.bl _) .nil)))), g6.show_, Nat.le_trans g6.depth (by decide), g6.fits (by decide), rfl, ?_⟩
        rw [sw_lt (n * 1) (m * u), sw_le (n * 1) (m * u), sw_gt (n * 1) (m * u), sw_ge (n * 1) (m * u), decide_eq_true (p := (V.str _ = V.str _)) rfl]
        exact q _ (S02.trans (S25.trans Z26))
end
end My

namespace My
open PySem PySem.Spec PyProof.Rows L2 G
abbrev s__law_odd : Stmt := topS 24
theorem sc__law_odd : FnScope ["_law_pot_here", "_law_some"] ["_law_pot_here"] (defScope s__law_odd) := ⟨rfl, rfl, rfl, by decide +kernel, rfl, by decide +kernel, by decide +kernel⟩

theorem gd_dict1 {n k N : Nat} {x : Str} {d : PyData} (g : Gd n k d) (hx : gdB 8 0 (.str x) = true) (hN : 8 + n + 2 ≤ N) : Gd N (k + 1) (.dict [(.str x, d)]) := by
  have h := gdB_ok hx
  refine ⟨?_, ?_, ?_, ?_⟩
  · simp only [PyData.leavesShort, PyData.leavesShortKv, Bool.and_true, Bool.and_eq_true]; exact ⟨h.short, g.short⟩
  · simp only [PyData.showable, PyData.showableKv, Bool.and_true, Bool.and_eq_true]; exact ⟨trivial, g.show_⟩
  · simp only [PyData.depth, PyData.depthKv]; have := g.depth; omega
  · simp only [PyData.weight, PyData.weightKv]; have := g.weight; have := h.weight; simp only [PyData.weight] at this; omega
/-- what an odd value is: short data, an int that is not too long -/
def OddG (d : PyData) : Prop := Gd 60 4 d ∧ ∀ i, d = .int i → -(10 ^ 9) ≤ i ∧ i ≤ 10 ^ 9
def spOddZ : Sp := fun vs H Q _ => ∃ (p : Addr) (n : Nat), vs = [.ref p] ∧ PotAt H p n ∧ n ≤ 100000 ∧ ∀ v H', (∀ N, Tr N H → Is N H' OddG v) → Go p (n + 1) H H' → Q v H'
local macro_rules | `(tactic| walk_at "gd") => `(tactic| exact gdB_ok (by decide +kernel))
local macro_rules | `(tactic| walk_at "ev") => `(tactic| repeat (first
  | exact eva_nil
  | apply eva_cons
  | exact evg_int (gdB_ok (by decide +kernel))
  | exact evg_str (gdB_ok (by decide +kernel))
  | exact evg_bl (gdB_ok (by decide +kernel))
  | exact evg_non (gdB_ok (by decide +kernel))
  | exact evg_neg (gdB_ok (by decide +kernel))
  | exact evg_pow ⟨by decide, by decide, by decide +kernel⟩ (gdB_ok (by decide +kernel))
  | exact evg_dnew (by assumption) (gdB_ok (by decide +kernel))
  | (apply evg_tup (G' := Gd 8 3); (case h => walk_at "ev"); (case t => assumption); (case hm => decide); (case g => exact fun ds l h => gd_tup h (Nat.le_of_eq l) (by decide)))
  | (apply evg_tup (G' := Gd 3 2); (case h => walk_at "ev"); (case t => assumption); (case hm => decide); (case g => exact fun ds l h => gd_tup h (Nat.le_of_eq l) (by decide)))
  | (apply evg_lst (G' := Gd 8 3); (case h => walk_at "ev"); (case t => assumption); (case hm => decide); (case g => exact fun ds l h => gd_lst h (Nat.le_of_eq l) (by decide)))
  | exact evg_dict1 (G' := Gd 8 3) (by assumption) (fun q H1 S => evg_int (gdB_ok (by decide +kernel))) (fun d g => gd_dict1 g (by decide +kernel) (by decide))))

local macro_rules | `(tactic| walk_at "evz") => `(tactic| repeat (first
  | exact eva_nil
  | apply eva_cons
  | exact evg_int ⟨gdB_ok (by decide +kernel), fun i e => by cases e; decide⟩
  | exact evg_str ⟨gdB_ok (by decide +kernel), fun i e => nomatch e⟩
  | exact evg_bl ⟨gdB_ok (by decide +kernel), fun i e => nomatch e⟩
  | exact evg_non ⟨gdB_ok (by decide +kernel), fun i e => nomatch e⟩
  | exact evg_neg ⟨gdB_ok (by decide +kernel), fun i e => by cases e; decide⟩
  | exact evg_pow ⟨by decide, by decide, by decide +kernel⟩ ⟨gdB_ok (by decide +kernel), fun i e => by cases e; decide⟩
  | exact evg_dnew (by assumption) ⟨gdB_ok (by decide +kernel), fun i e => nomatch e⟩
  | (apply evg_tup (G' := Gd 8 3); (case h => walk_at "ev"); (case t => assumption); (case hm => decide); (case g => exact fun ds l h => ⟨gd_tup h (Nat.le_of_eq l) (by decide), fun i e => nomatch e⟩))
  | (apply evg_tup (G' := Gd 3 2); (case h => walk_at "ev"); (case t => assumption); (case hm => decide); (case g => exact fun ds l h => ⟨gd_tup h (Nat.le_of_eq l) (by decide), fun i e => nomatch e⟩))
  | (apply evg_lst (G' := Gd 8 3); (case h => walk_at "ev"); (case t => assumption); (case hm => decide); (case g => exact fun ds l h => ⟨gd_lst h (Nat.le_of_eq l) (by decide), fun i e => nomatch e⟩))
  | exact evg_dict1 (G' := Gd 8 3) (by assumption) (fun q H1 S => evg_int (gdB_ok (by decide +kernel))) (fun d g => ⟨gd_dict1 g (by decide +kernel) (by decide), fun i e => nomatch e⟩)))
section
variable {P : Program} {w : World} {K : PySem.W.Frag} {mg : Str → Option Value} {base : Heap} {a : Ad}
theorem ok__law_odd {fd : FuncData} (F : Fun K "_law_odd" "_law_odd" s__law_odd a._law_odd fd) (T : Txt K mg a)
    {fd__law_of : FuncData} (G__law_of : Fn P w K mg base CX0 2 a._law_of fd__law_of ["_law_pot_here", "_law_some"] spOf) (b__law_of : Binds K fd__law_of ["_law_pot_here", "_law_some"] []) :
    Fn P w K mg base CX0 3 a._law_odd fd ["_law_pot_here"] spOddZ := by
  refine ok F sc__law_odd (fun vs H Q E h => ?len) (fun cdv A outer s H vs Q E hq hr h => ⟨_,
      (pss_cons (ps_set (i := 1) sc__law_odd.nd rfl (Or.inl rfl) (pe_lstS (pa_cons pe_non (pa_cons pe_bl (pa_cons pe_bl (pa_cons pe_int (pa_cons pe_int (pa_cons (pe_un un_neg pe_int) (pa_cons pe_int (pa_cons pe_int (pa_cons pe_str (pa_cons pe_str (pa_cons pe_str (pa_cons pe_str (pa_cons (pe_tup pa_nil) (pa_cons (pe_lstS pa_nil) (pa_cons pe_dnewK (pa_cons (pe_tup (pa_cons pe_int pa_nil)) (pa_cons (pe_tup (pa_cons (pe_tup pa_nil) pa_nil)) (pa_cons (pe_lstS (pa_cons pe_int pa_nil)) (pa_cons (pe_tup (pa_cons pe_str (pa_cons pe_int pa_nil))) (pa_cons (pe_disp (pps_cons pe_str pe_int pps_nil) (by rfl) (by rfl) (fun z => by cases z) (by decide)) pa_nil))))))))))))))))))))))
      (pss_one (ps_ret (pe_fn G__law_of hq (hr.mono (by omega)) (by rfl) T.g__law_of T.k__law_of b__law_of .nil pass0 (pa_cons (pv 0) (pa_cons (pe_op op_cat (pv 1) (pe_lstS (pa_cons (pe_tup (pa_cons (pe_tup (pa_cons pe_str pa_nil)) pa_nil)) (pa_cons (pe_tup (pa_cons pe_str (pa_cons pe_str pa_nil))) (pa_cons (pe_tup (pa_cons pe_int (pa_cons pe_int pa_nil))) (pa_cons (pe_tup (pa_cons (pe_tup (pa_cons pe_int (pa_cons pe_int pa_nil))) pa_nil)) (pa_cons (pe_tup (pa_cons pe_non pa_nil)) (pa_cons (pe_op op_powW pe_int pe_int) (pa_cons pe_str (pa_cons (pe_tup (pa_cons pe_bl pa_nil)) (pa_cons (pe_tup (pa_cons pe_int (pa_cons (pe_un un_neg pe_int) (pa_cons pe_int pa_nil)))) pa_nil))))))))))) pa_nil)))))), ?body⟩)
  case len => obtain ⟨p, n, rfl, _⟩ := h; rfl
  case body =>
    obtain ⟨p, n, rfl, pot, hn, q⟩ := h
    have t : Tr (fun b => H b ≠ none) H := fun _ h => h
    refine s_set (eva_list (G := OddG) (m := 20) t ?ev1 (by decide) fun l xs H1 S1 nl hl sl ll hx => ?_)
    case ev1 => walk_at "evz"
    have t1 : Tr (fun b => H b ≠ none) H1 := t.same S1
    refine ⟨_, rfl, _, rfl, ?_⟩
    refine eva_list (G := OddG) (m := 9) t1 ?ev2 (by decide) fun l2 ys H2 S2 nl2 hl2 sl2 ll2 hy => ?_
    case ev2 => walk_at "evz"
    refine ⟨_, _, _, _, rfl, rfl, S2 _ _ hl, hl2, by rw [ll, ll2]; decide, fun l3 n3 => ?_⟩
    have pot3 : PotAt (upd H2 l3 (.lst (xs ++ ys))) p n := ((pot.same S1).same S2).same (same_new n3)
    have n3p : l3 ≠ p := fun e => by
      rw [e] at n3
      exact ((pot.same S1).same S2).has n3
    refine ⟨p, l3, n, xs ++ ys, rfl, n3p, pot3, hn, upd_same, (by intro e; have z := congrArg List.length e; rw [List.length_append, ll, ll2] at z; exact absurd z (by decide)), by rw [List.length_append, ll, ll2]; decide, fun x H4 hm g => ?_⟩
    refine q x H4 (fun N tN => ?_) (Go.of ((S1.trans S2).trans (same_new n3)) g)
    have hx3 : Is (fun b => H b ≠ none) (upd H2 l3 (.lst (xs ++ ys))) OddG x := by
      rcases List.mem_append.mp hm with z | z
      · exact ((hx x z).same S2).same (same_new n3)
      · exact (hy x z).same (same_new n3)
    exact (g.is pot.has hx3).less tN
end
end My

namespace My
open PySem PySem.Spec PyProof.Rows L2 G LamX
abbrev s__law_told : Stmt := topS 22
theorem sc__law_told : FnScope ["_law_ask", "_law_caught", "_law_back", "error"] ["_law_ask"] (defScope s__law_told) := ⟨rfl, rfl, rfl, by decide +kernel, rfl, by decide +kernel, by decide +kernel⟩

/-- what the law's asking makes of the lambda's reading: the error, or what came back -/
def TTold (K : PySem.W.Frag) (CS : Addr) : (XK → Hp → VK → Prop) → Hp → VK → Prop := fun tl H Q => ∀ H1, Same H H1 → ∀ (E' : XK) (Q' : VK),
  (∀ C d H', PySem.W.exmOne K (.ref C) (.ref CS) = some true → (∀ e, H' e = none → ∀ T, upd H' e (exc e C d) T = none → Q (.ref T) (upd (upd H' e (exc e C d)) T (.tup [.ref e, .non]))) → E' (.ref C) d H') →
  (∀ v H', (∀ T, H' T = none → Q (.ref T) (upd H' T (.tup [.non, v]))) → Q' v H') → tl E' H1 Q'
section
variable {P : Program} {w : World} {K : PySem.W.Frag} {mg : Str → Option Value} {base : Heap} {a : Ad}
theorem told_asks {X : Cx} (hA : X.mg "AboutError" = some (.ref a.AboutError)) (g : Addr) (cdg : Value) (q : Str) :
    Asks X ["_law_ask", "_law_caught", "_law_back", "error"] "_law_told" (defScope s__law_told) g cdg (defBody s__law_told) "_law_ask" q (TTold X.K a.AboutError) := by
  intro f c' s H Q tl act hc h
  refine ⟨_, pss_cons (ps_asg (pe_tup (pa_cons pe_non (pa_cons pe_non pa_nil))) (pg_tup rfl (pgs_cons (pg_name (i := 1) sc__law_told.nd rfl (Or.inl rfl)) (pgs_cons (pg_name (i := 2) sc__law_told.nd rfl (Or.inl rfl)) pgs_nil))))
    (pss_cons (ps_try_asT (i := 3) (c := .ref a.AboutError) rfl rfl rfl sc__law_told.nd rfl rfl ⟨rfl, by decide, .inl hA⟩
      (fun W pn xe tk _ => pss_one (ps_set (i := 2) sc__law_told.nd rfl (.inl rfl) (act W pn xe _ _ tk)))
      (fun e oe cls d pn _ _ => pss_one (ps_set (i := 1) sc__law_told.nd rfl (.inl rfl) (pv 3))))
    (pss_one (ps_ret (pe_tup (pa_cons (pv 1) (pa_cons (pv 2) pa_nil)))))), ?_⟩
  refine ⟨(by show 2 ≤ sizeLine; decide), fun t1 h1 => ⟨t1, _, rfl, SqT.of upd_same, rfl, ?_⟩⟩
  refine ⟨_, _, rfl, _, _, rfl, rfl, rfl, same_new h1 _ _ hc, ?_⟩
  refine h _ (same_new h1) _ _ (fun C d H' x q => ⟨x, C, rfl, fun e he => ?_⟩) (fun v H' q => ?_)
  · refine ⟨_, rfl, _, rfl, _, rfl, (by show 2 ≤ sizeLine; decide), fun T hT => ?_⟩
    exact q e he T hT
  · refine ⟨_, rfl, _, rfl, (by show 2 ≤ sizeLine; decide), fun T hT => ?_⟩
    exact q T hT
end
end My

namespace My
open PySem PySem.Spec PyProof.Rows L2 G
def spLi (K : PySem.W.Frag) : Sp := fun vs H Q _ => ∃ v t b1 b2 lo hi, vs = [v, .int lo, .int hi] ∧ TyX K H v t ∧ PySem.W.kitOne K t (.type "int") = some b1 ∧ PySem.W.kitOne K t (.type "bool") = some b2 ∧
  (((b1 && !b2) = false ∧ Q (.bl false) H) ∨ ((b1 && !b2) = true ∧ ∃ i, v = .int i ∧ Q (.bl (decide (lo ≤ i) && decide (i ≤ hi))) H))
section
variable {P : Program} {w : World} {K : PySem.W.Frag} {mg : Str → Option Value} {base : Heap} {a : Ad}
theorem ok__law_is_int {fd : FuncData} (F : Fun K "_law_is_int" "_law_is_int" s__law_is_int a._law_is_int fd) (T : Txt K mg a) :
    Fn P w K mg base CX0 1 a._law_is_int fd ["_law_value", "_law_low", "_law_high"] (spLi K) := by
  refine ok F sc__law_is_int (fun vs H Q E h => ?len) (fun cdv A outer s H vs Q E hq hr h => ⟨_,
      (pss_one (ps_ret (pe_and (pe_callB call_isi (by rfl) T.n_isinstance (by decide +kernel) (pa_cons (pv 0) (pa_cons (pe_bltn (v := .ty "int") (u := .type "int") (by rfl) T.n_int (by decide +kernel) rfl) pa_nil))) (pe_and (pe_not (pe_callB call_isi (by rfl) T.n_isinstance (by decide +kernel) (pa_cons (pv 0) (pa_cons (pe_bltn (v := .ty "bool") (u := .type "bool") (by rfl) T.n_bool (by decide +kernel) rfl) pa_nil)))) (pe_one (pe_chain op_le op_le (pv 1) (pv 0) (pv 2))))))), ?body⟩)
  case len => obtain ⟨v, t, b1, b2, lo, hi, rfl, _⟩ := h; rfl
  case body =>
    obtain ⟨v, t, b1, b2, lo, hi, rfl, ty, k1, k2, q⟩ := h
    refine ⟨_, rfl, _, _, _, _, b1, rfl, .ty _, ty, k1, b1, rfl, ?_⟩
    cases b1
    · rcases q with ⟨_, q⟩ | ⟨z, _⟩
      · exact iteF q
      · cases z
    · refine iteT ⟨_, rfl, _, _, _, _, b2, rfl, .ty _, ty, k2, b2, rfl, !b2, rfl, ?_⟩
      cases b2
      · rcases q with ⟨z, _⟩ | ⟨_, i, rfl, q⟩
        · cases z
        · refine iteT ⟨_, rfl, _, rfl, _, _, rfl, rfl, _, rfl, ite2 (fun c => ?_) (fun c => ?_)⟩
          · refine ⟨_, rfl, _, _, rfl, rfl, ?_⟩
            rw [c, Bool.true_and] at q
            exact q
          · rw [Bool.eq_false_iff.mpr c, Bool.false_and] at q
            exact q
      · rcases q with ⟨_, q⟩ | ⟨z, _⟩
        · exact iteF q
        · cases z
end
end My

namespace My
open PySem PySem.Spec PyProof.Rows L2 G
abbrev s_written : Stmt := topS 12
theorem sc_written : FnScope ["integer", "parts", "rest", "part"] ["integer"] (defScope s_written) := ⟨rfl, rfl, rfl, by decide +kernel, rfl, by decide +kernel, by decide +kernel⟩

abbrev s_Ratio___repr__ : Stmt := inClass (topS 16) 17
theorem sc_Ratio___repr__ : FnScope ["self"] ["self"] (defScope s_Ratio___repr__) := ⟨rfl, rfl, rfl, by decide +kernel, rfl, by decide +kernel, by decide +kernel⟩

def spWritten : Sp := fun vs H Q _ => ∃ i : Int, vs = [.int i] ∧ 0 ≤ i ∧ i < 10 ^ 64 ∧ ∀ H', Same H H' → Q (.str (toString i)) H'
def spRepr (C : Addr) : Sp := fun vs H Q _ => ∃ v n, vs = [v] ∧ RatAt C H v n 1 ∧ 0 ≤ n ∧ n < 10 ^ 64 ∧ ∀ H', Same H H' → Q (.str (Str.empty ++ "Ratio(" ++ toString n ++ ")")) H'
section
variable {P : Program} {w : World} {K : PySem.W.Frag} {mg : Str → Option Value} {base : Heap} {a : Ad}
theorem ok_written {fd : FuncData} (F : Fun K "written" "written" s_written a.written fd) (T : Txt K mg a) :
    FnOk P w K mg base CX0 1 a.written fd ["integer"] spWritten := by
  refine F.ok sc_written (fun vs H Q E h => ?len) (fun cdv A outer s H vs Q E hr h => ⟨_,
      (pss_cons (ps_set (i := 1) sc_written.nd rfl (Or.inl rfl) (pe_lstS pa_nil))
      (pss_cons (ps_set (i := 2) sc_written.nd rfl (Or.inl rfl) (pe_callB call_abs (by rfl) T.n_abs (by decide +kernel) (pa_cons (pv 0) pa_nil)))
      (pss_cons (ps_while PassesOwn.never (pt_cmpR op_ge (pv 2) (pe_glob (v := .int (10 ^ 64)) (by rfl) T.g_PART.choose_spec ⟨_, rfl⟩) (nomark _)) (pss_cons ps_never
      (pss_one ps_never)))
      (pss_cons (ps_expr (pe_bm PySem.F.plainAttrs_list PySem.F.slot_list_append PySem.F.type_list_append mt_append (pv 1) (pa_cons (pe_callTy call_str_int (by rfl) T.n_str (by decide +kernel) (pa_cons (pv 2) pa_nil)) pa_nil)))
      (pss_cons (ps_if (pt_cmpR op_lt (pv 0) pe_int (nomark _)) (pss_one ps_never) pss_nil)
      (pss_one (ps_ret (pe_join pe_str (pe_revL (pv 1)))))))))), ?body⟩)
  case len => obtain ⟨i, rfl, _⟩ := h; rfl
  case body =>
    obtain ⟨i, rfl, i0, i1, q⟩ := h
    refine ⟨(by show 0 ≤ sizeLine; decide), fun l hl sl => ?_⟩
    refine ⟨_, rfl, _, rfl, ?_⟩
    have e0 : (if i < 0 then -i else i) = i := if_neg (by omega)
    rw [e0]
    refine while_by (fun σ' H' => σ' = [some (.int i), some (.ref l), some (.int i), none] ∧ H' = upd H l (.lst [])) (fun _ _ => 0) ⟨rfl, rfl⟩ ?_ ?_
    · rintro σ' H' ⟨rfl, rfl⟩
      refine ⟨_, rfl, _, _, rfl, rfl, _, rfl, ite2 (fun c => ?_) (fun c => ?_)⟩
      · exact absurd (of_decide_eq_true c) (by show ¬ (10 ^ 64 : Int) ≤ i; omega)
      have lg : i.natAbs.log2 < 1920 := Nat.lt_of_lt_of_le (PySem.Flt.log2_lt_of (k := 213) (by decide) (Nat.lt_of_lt_of_le (m := 10 ^ 64) (by omega) (by decide +kernel))) (by decide)
      refine ⟨_, rfl, .inl ⟨rfl, _, SqL.of upd_same⟩, _, rfl, i, rfl, lg, _, _, _, rfl, rfl, upd_same, (by show 0 < sizeLine; decide), ?_⟩
      refine ⟨_, rfl, _, _, rfl, rfl, _, rfl, ite2 (fun c2 => ?_) (fun c2 => ?_)⟩
      · exact absurd (of_decide_eq_true c2) (by show ¬ i < 0; omega)
      refine ⟨⟨_, rfl⟩, _, rfl, l, _, rfl, SqL.of upd_same, fun p hp => ?_⟩
      have z : Str.length (toString i : String) ≤ 2000 := by
        have := int_text_len_1921 lg
        omega
      refine ⟨_, p, [(toString i : String)], rfl, rfl, .inl (SqL.of upd_same), ?_, ?_⟩
      · simp only [List.map_cons, List.map_nil, List.sum_cons, List.sum_nil, List.length_cons, List.length_nil]
        have ze : Str.length ("" : String) = 0 := rfl
        rw [ze]
        omega
      rw [upd_upd] at hp ⊢
      exact q _ ((same_new hl).trans (same_new hp))
    · rintro σ' H' Q1 Q2 imp ⟨v, e1, i, j, e2, e3, k, e4, z⟩
      exact ⟨v, e1, i, j, e2, e3, k, e4, imp _ _ z⟩
theorem ok_Ratio___repr__ {fd : FuncData} (F : Fun K "__repr__" "Ratio.__repr__" s_Ratio___repr__ a.Ratio___repr__ fd) (T : Txt K mg a)
    {fd_written : FuncData} (G_written : FnOk P w K mg base CX0 1 a.written fd_written ["integer"] spWritten) (b_written : Binds K fd_written ["integer"] []) :
    FnOk P w K mg base CX0 2 a.Ratio___repr__ fd ["self"] (spRepr a.Ratio) := by
  refine F.ok sc_Ratio___repr__ (fun vs H Q E h => ?len) (fun cdv A outer s H vs Q E hr h => ⟨_,
      (pss_cons (ps_if (pt_cmpR op_eq (pe_fld (pv 0) rfl) pe_int (nomark _)) (pss_one (ps_ret (pe_joined (.cons pe_str (.cons (pe_fmt (pe_call G_written (hr.mono (by omega)) (by rfl) T.g_written T.k_written b_written .nil pass0 (pa_cons (pe_fld (pv 0) rfl) pa_nil))) (.cons pe_str .nil)))))) pss_nil)
      (pss_one ps_never)), ?body⟩)
  case len => obtain ⟨v, n, rfl, _⟩ := h; rfl
  case body =>
    obtain ⟨v, n, rfl, ⟨x, dx, rfl, hx⟩, n0, n1, q⟩ := h
    refine ⟨_, rfl, _, _, _, _, _, rfl, hx, T.cl, T.nU, rfl, rfl, _, rfl, iteT ?_⟩
    have lg : n.natAbs.log2 < 1920 := Nat.lt_of_lt_of_le (PySem.Flt.log2_lt_of (k := 213) (by decide) (Nat.lt_of_lt_of_le (m := 10 ^ 64) (by omega) (by decide +kernel))) (by decide)
    have z := int_text_len_1921 lg
    have z1 : (Str.empty ++ ("Ratio(" : Str)).length = 6 := rfl
    have z2 : (Str.empty ++ ("Ratio(" : Str) ++ (toString n : String)).length ≤ 2000 := by
      rw [strLen_append, z1]
      omega
    refine ⟨_, rfl, (by show 6 ≤ sizeLine; decide), _, rfl, _, _, _, _, _, rfl, hx, T.cl, T.nN, rfl, n, rfl, n0, n1, fun H' S => .inl ⟨_, rfl, ?_, _, rfl, ?_, _, rfl, ?_, q H' S⟩⟩
    · rw [sizeLine_eq]
      omega
    · rw [sizeLine_eq]
      omega
    · rw [strLen_append, sizeLine_eq]
      have : (")" : Str).length = 1 := rfl
      omega
end
end My

namespace My
open PySem PySem.Spec PyProof.Rows L2 G LamX

/-! ### all but the pot and the tables of code objects stays -/
def IsTb (H : Hp) (b : Addr) : Prop := ∃ ps, H b = some (.tbl ps)
noncomputable abbrev vw (p : Addr) (H : Hp) : Hp := mask (fun b => b = p ∨ IsTb H b) H
theorem vw_le (p : Addr) (H : Hp) : Same (vw p H) H := mask_le _ _
theorem vw_at {p b : Addr} {H : Hp} {o : HO} (h : H b = some o) (hb : b ≠ p) (ho : ∀ ps, o ≠ .tbl ps) : vw p H b = some o := by
  refine (mask_out ?_).trans h
  rintro (z | ⟨ps, z⟩)
  · exact hb z
  · rw [h] at z
    exact ho ps (Option.some.inj z)
theorem vw_some {p b : Addr} {H : Hp} {o : HO} (h : vw p H b = some o) : b ≠ p ∧ H b = some o ∧ ∀ ps, o ≠ .tbl ps := by
  obtain ⟨n, e⟩ := mask_some h
  exact ⟨fun z => n (.inl z), e, fun ps z => n (.inr ⟨ps, by rw [e, z]⟩)⟩
def Kp (p : Addr) (H H' : Hp) : Prop := Same (vw p H) (vw p H')
theorem Kp.refl (p : Addr) (H : Hp) : Kp p H H := Same.refl _
theorem Kp.trans {p : Addr} {H H1 H2 : Hp} (a : Kp p H H1) (b : Kp p H1 H2) : Kp p H H2 := Same.trans a b
theorem Kp.same {p : Addr} {H H' : Hp} (S : Same H H') : Kp p H H' := fun b o e => by
  obtain ⟨n, e, t⟩ := vw_some e
  exact vw_at (S _ _ e) n t
theorem Kp.ext {p : Addr} {H H' : Hp} (S : ExtN H H') : Kp p H H' := fun b o e => by
  obtain ⟨n, e, t⟩ := vw_some e
  exact vw_at (S _ _ e t) n t
theorem Kp.go {p : Addr} {n : Nat} {H H' : Hp} (g : Go p n H H') : Kp p H H' := fun b o e => by
  obtain ⟨n, e, t⟩ := vw_some e
  exact vw_at (g.at e n) n t
theorem Kp.at {p b : Addr} {H H' : Hp} {o : HO} (k : Kp p H H') (h : H b = some o) (hb : b ≠ p) (ho : ∀ ps, o ≠ .tbl ps) : H' b = some o := (vw_some (k b o (vw_at h hb ho))).2.1
mutual
theorem da_strip {p : Addr} {H : Hp} : ∀ {v : V} {d : PyData}, Da (mask (fun b => b = p) H) v d → Da (vw p H) v d
  | _, _, .non => .non
  | _, _, .bl b => .bl b
  | _, _, .int i => .int i
  | _, _, .str x => .str x
  | _, _, .lst e n t => .lst (vw_at (mask_some e).2 (mask_some e).1 fun _ z => nomatch z) n (daAll_strip t)
  | _, _, .tup e t => .tup (vw_at (mask_some e).2 (mask_some e).1 fun _ z => nomatch z) (daAll_strip t)
  | _, _, .dct e t => .dct (vw_at (mask_some e).2 (mask_some e).1 fun _ z => nomatch z) (daAll_strip t)
theorem daAll_strip {p : Addr} {H : Hp} : ∀ {vs : List V} {ds : List PyData}, DaAll (mask (fun b => b = p) H) vs ds → DaAll (vw p H) vs ds
  | _, _, .nil => .nil
  | _, _, .cons h t => .cons (da_strip h) (daAll_strip t)
end
/-- what is asked to divide: 0 as a Ratio, or data -/
def Ob (C p : Addr) (H : Hp) (x : V) : Prop := RatAt C (vw p H) x 0 1 ∨ ∃ d, Da (vw p H) x d ∧ OddG d
theorem Ob.kp {C p : Addr} {H H' : Hp} {x : V} (k : Kp p H H') (o : Ob C p H x) : Ob C p H' x :=
  o.imp (fun h => h.same k) fun ⟨d, a, g⟩ => ⟨d, a.same k, g⟩
theorem RatAt.vw {C p : Addr} {k : Nat} {H : Hp} {v : V} {n u : Int} (pot : PotAt H p k) (h : RatAt C H v n u) : RatAt C (vw p H) v n u := by
  obtain ⟨a, dx, e, h⟩ := h
  refine ⟨a, dx, e, vw_at h (fun z => ?_) fun _ z => nomatch z⟩
  obtain ⟨_, _, _, f, _⟩ := pot
  rw [z, f] at h
  cases h
theorem PairAt.vw {p : Addr} {k : Nat} {H : Hp} {v : V} {n u : Int} (pot : PotAt H p k) (h : PairAt H v n u) : PairAt (vw p H) v n u := by
  obtain ⟨a, e, h⟩ := h
  refine ⟨a, e, vw_at h (fun z => ?_) fun _ z => nomatch z⟩
  obtain ⟨_, _, _, f, _⟩ := pot
  rw [z, f] at h
  cases h
theorem PotAt.ext {p : Addr} {k : Nat} {H H' : Hp} (S : ExtN H H') (h : PotAt H p k) : PotAt H' p k := by
  obtain ⟨a, b, c, e, r⟩ := h
  exact ⟨a, b, c, S _ _ e (fun _ z => nomatch z), r⟩
theorem codeO_no {c : Addr} {q : Str} {xs : List V} : CodeO c q ≠ .lst xs := fun z => by
  unfold CodeO at z
  cases z
theorem Tabs.go {T : List (Addr × Str)} {p : Addr} {m n : Nat} {H H' : Hp} (g : Go p n H H') (pot : PotAt H p m) (t : Tabs T H) : Tabs T H' := fun x hx => by
  obtain ⟨a, b, c, f, _⟩ := pot
  obtain ⟨ps, h1, h2, h3⟩ := t x hx
  refine ⟨ps, g.at h1 (fun z => ?_), h2, fun ps cv hc => ?_⟩
  · rw [z, f] at h1
    cases h1
  · obtain ⟨y, e1, e2⟩ := h3 ps cv hc
    refine ⟨y, e1, g.at e2 fun z => ?_⟩
    rw [z, f] at e2
    exact codeO_no (Option.some.inj e2).symm
theorem da_ty {K : PySem.W.Frag} {mg : Str → Option Value} {a : Ad} (T : Txt K mg a) {H : Hp} {x : V} {d : PyData} (h : Da H x d) : ∃ t, TyX K H x (.type t) ∧ PySem.W.kitOne K (.type t) (.ref a.Ratio) = some false ∧
    ((∃ i, d = .int i ∧ x = .int i ∧ PySem.W.kitOne K (.type t) (.type "int") = some true ∧ PySem.W.kitOne K (.type t) (.type "bool") = some false) ∨
     (∃ b, d = .bool b ∧ PySem.W.kitOne K (.type t) (.type "int") = some true ∧ PySem.W.kitOne K (.type t) (.type "bool") = some true) ∨
     ((∀ i, d ≠ .int i) ∧ (∀ b, d ≠ .bool b) ∧ PySem.W.kitOne K (.type t) (.type "int") = some false ∧ PySem.W.kitOne K (.type t) (.type "bool") = some false)) := by
  cases h with
  | non => exact ⟨"NoneType", .base .non, T.ri.kt _ (by simp), .inr (.inr ⟨(fun _ z => nomatch z), (fun _ z => nomatch z), kit_ty (by decide +kernel), kit_ty (by decide +kernel)⟩)⟩
  | bl b => exact ⟨"bool", .base (.bl b), T.ri.kt _ (by simp), .inr (.inl ⟨b, rfl, kit_ty (by decide +kernel), kit_ty (by decide +kernel)⟩)⟩
  | int i => exact ⟨"int", .base (.int i), T.ri.kt _ (by simp), .inl ⟨i, rfl, rfl, kit_ty (by decide +kernel), kit_ty (by decide +kernel)⟩⟩
  | str y => exact ⟨"str", .base (.str y), T.ri.kt _ (by simp), .inr (.inr ⟨(fun _ z => nomatch z), (fun _ z => nomatch z), kit_ty (by decide +kernel), kit_ty (by decide +kernel)⟩)⟩
  | lst e n t => exact ⟨"list", .base (.lst e), T.ri.kt _ (by simp), .inr (.inr ⟨(fun _ z => nomatch z), (fun _ z => nomatch z), kit_ty (by decide +kernel), kit_ty (by decide +kernel)⟩)⟩
  | tup e t => exact ⟨"tuple", .base (.tup e), T.ri.kt _ (by simp), .inr (.inr ⟨(fun _ z => nomatch z), (fun _ z => nomatch z), kit_ty (by decide +kernel), kit_ty (by decide +kernel)⟩)⟩
  | dct e t => exact ⟨"dict", .base (.dK e), T.ri.kt _ (by simp), .inr (.inr ⟨(fun _ z => nomatch z), (fun _ z => nomatch z), kit_ty (by decide +kernel), kit_ty (by decide +kernel)⟩)⟩
end My
namespace G
open PySem PySem.Spec PyProof.Rows L2
/-- repr of short data, or of an instance -/
theorem call_repr2 {X : Cx} {CX : CXT} {n : Nat} {C f : Addr} {sp : Sp} {E : XK} (hq : Quiet X.A) (hu : X.A.units + 64 < cLine) (hs : PySem.W.findIn X.K (.ref C) "__repr__" = some (some (.ref f))) (hf : PySem.W.isFn X.K (.ref f) = true) (F : FnR X.prog X.w X.K X.mg X.base CX n f sp) (hr : Room (n + 1) X.A) (hx : Passes CX X E) :
    CallR X (.builtin "repr") (fun xs H Q => (∃ v d n k, xs = [v] ∧ Da H v d ∧ Gd n k d ∧ (n ≤ 2 ^ 20 ∧ k ≤ 20) ∧ Q (.str d.shown) H) ∨ ∃ a dx fs, xs = [.ref a] ∧ H a = some (.ins C dx fs) ∧ sp [.ref a] H (fun v H' => ∃ t, v = .str t ∧ Q v H') E) := by
  intro pins s σ H xs us Q I r h
  rcases h with h | h
  · exact call_reprD hq hu pins s σ H xs us Q I r h
  · exact call_reprK hs hf F hr hx pins s σ H xs us Q I r h
end G

namespace My
open PySem PySem.Spec PyProof.Rows L2 G LamX
abbrev s__law_right : Stmt := topS 34
theorem sc__law_right : FnScope ["_law_pot_here", "_law_one", "_law_other", "_law_many", "_law_odd_here", "_law_caught"] ["_law_pot_here"] (defScope s__law_right) := ⟨rfl, rfl, rfl, by decide +kernel, rfl, by decide +kernel, by decide +kernel⟩

def lamQ : Str := "_law_right.<locals>.<lambda>"
/-- the lambda's reading -/
def tAsk (K : PySem.W.Frag) (a : Ad) (E : XK) : TE := tMeth a.Ratio "divided" (spDiv K a.Ratio a.BadRatio) [] E (tMake a.Ratio (spInit K a.Ratio) [] E0 (tCons (tOp (rIxT K) (tVar 1) (tC (.int 0))) (tCons (tOp (rIxT K) (tVar 1) (tC (.int 1))) tNil))) (tCons (tVar 4) tNil)
def spRight (K : PySem.W.Frag) (Pt : Addr) : Sp := fun vs H Q _ => ∃ p k, vs = [.ref p] ∧ PotAt H p k ∧ k ≤ 80000 ∧ Tabs [(Pt, lamQ)] H ∧ ∀ H', Kp p H H' → PotAt H' p (k + 20) → Tabs [(Pt, lamQ)] H' → Q (.bl true) H'
theorem cut_ {S G : Prop} (f : S → G) (s : S) : G := f s
/-- nothing by which one can divide, or an int that is not 0 -/
theorem asked_or {K : PySem.W.Frag} {mg : Str → Option Value} {a : Ad} (T : Txt K mg a) {p : Addr} {H : Hp} {x : V} (o : Ob a.Ratio p H x) :
    ((∀ H', Kp p H H' → NoDiv K a.Ratio H' x) ∧ (TyX K H x (.ref a.Ratio) ∨ ∃ d, Da H x d ∧ (zeroD d = true ∨ (zeroD d = false ∧ ∀ i, d ≠ .int i)))) ∨ ∃ j : Int, x = .int j ∧ j ≠ 0 ∧ -(10 ^ 9) ≤ j ∧ j ≤ 10 ^ 9 := by
  rcases o with o | ⟨d, hd, g⟩
  · exact .inl ⟨fun H' k => .inl ⟨1, .inr ((o.same k).same (vw_le _ _))⟩, .inl (ratTy T (o.same (vw_le _ _)))⟩
  · have hd' := hd.same (vw_le _ _)
    obtain ⟨_, _, _, z⟩ := da_ty T hd'
    have no : (∀ i, d ≠ .int i) → ∀ H', Kp p H H' → NoDiv K a.Ratio H' x := fun ni H' k => by
      obtain ⟨t, t1, t2, z⟩ := da_ty T ((hd.same k).same (vw_le _ _))
      rcases z with ⟨i, e, _⟩ | ⟨b, e, k1, k2⟩ | ⟨_, _, k1, k2⟩
      · exact absurd e (ni i)
      · exact .inr ⟨_, true, true, false, t1, k1, k2, t2, rfl⟩
      · exact .inr ⟨_, false, false, false, t1, k1, k2, t2, rfl⟩
    rcases z with ⟨i, e, e2, _⟩ | ⟨b, e, _⟩ | ⟨ni, nb, _⟩
    · by_cases h0 : i = 0
      · subst h0
        refine .inl ⟨fun H' k => .inl ⟨1, .inl ⟨e2, rfl⟩⟩, .inr ⟨d, hd', .inl (by rw [e]; rfl)⟩⟩
      · obtain ⟨l1, l2⟩ := g.2 i e
        exact .inr ⟨i, e2, h0, l1, l2⟩
    · have ni : ∀ i, d ≠ .int i := fun i z => by rw [e] at z; cases z
      refine .inl ⟨no ni, .inr ⟨d, hd', ?_⟩⟩
      cases hz : zeroD d
      · exact .inr ⟨rfl, ni⟩
      · exact .inl rfl
    · refine .inl ⟨no ni, .inr ⟨d, hd', ?_⟩⟩
      cases hz : zeroD d
      · exact .inr ⟨rfl, ni⟩
      · exact .inl rfl
theorem cpow9 : CPowW 10 9 := ⟨by decide, by decide, by decide +kernel⟩
theorem cpow12 : CPowW 10 12 := ⟨by decide, by decide, by decide +kernel⟩
theorem sm_of {n : Int} (h : -(10 ^ 6) ≤ n) (h' : n ≤ 10 ^ 6) : Sm n := ⟨by omega, by omega⟩
section
variable {P : Program} {w : World} {K : PySem.W.Frag} {mg : Str → Option Value} {base : Heap} {a : Ad}
theorem ok_right {cA Pt : Addr} {oc kV doc pm ct : Value} {an od : Option Addr} {osl : Array (Option Value)} (T : Txt K mg a)
    (lk : K.lookup a._law_right = some ⟨oc, od, .func (PySem.W.fnOf "_law_right" "_law_right" (defArgs s__law_right) (defBody s__law_right) (defScope s__law_right) .none kV doc pm an (.ref cA) ct), osl⟩)
    (hc : PySem.W.codeIn K (.ref cA) "_law_right" = true) (TB : TabB base mg cA Pt)
    {oct kVt doct pmt cdt ctt : Value} {ant odt : Option Addr} {oslt : Array (Option Value)}
    (lkt : K.lookup a._law_told = some ⟨oct, odt, .func (PySem.W.fnOf "_law_told" "_law_told" (defArgs s__law_told) (defBody s__law_told) (defScope s__law_told) .none kVt doct pmt ant cdt ctt), oslt⟩)
    (hct : PySem.W.codeIn K cdt "_law_told" = true) (bt : Binds K (PySem.W.fnOf "_law_told" "_law_told" (defArgs s__law_told) (defBody s__law_told) (defScope s__law_told) .none kVt doct pmt ant cdt ctt) ["_law_ask"] [])
    {fd__law_odd : FuncData} (G__law_odd : Fn P w K mg base CX0 3 a._law_odd fd__law_odd ["_law_pot_here"] spOddZ) (b__law_odd : Binds K fd__law_odd ["_law_pot_here"] [])
    {fd_Ratio___init__ : FuncData} (G_Ratio___init__ : FnOk P w K mg base CX0 2 a.Ratio___init__ fd_Ratio___init__ ["self", "number", "under"] (spInit K a.Ratio)) (b_Ratio___init__ : Binds K fd_Ratio___init__ ["self", "number", "under"] [])
    {ds_Ratio___init__ : List Value} (d_Ratio___init__ : Vals [.int 1] ds_Ratio___init__ ∧ Binds K fd_Ratio___init__ ["self", "number", "under"] ds_Ratio___init__)
    {fd__law_is_int : FuncData} (G__law_is_int : Fn P w K mg base CX0 1 a._law_is_int fd__law_is_int ["_law_value", "_law_low", "_law_high"] (spLi K)) (b__law_is_int : Binds K fd__law_is_int ["_law_value", "_law_low", "_law_high"] [])
    {fd_Ratio___repr__ : FuncData} (G_Ratio___repr__ : FnOk P w K mg base CX0 2 a.Ratio___repr__ fd_Ratio___repr__ ["self"] (spRepr a.Ratio)) (b_Ratio___repr__ : Binds K fd_Ratio___repr__ ["self"] [])
    {fd_Ratio_divided : FuncData} (G_Ratio_divided : FnOk P w K mg base (L2.CX P w) 5 a.Ratio_divided fd_Ratio_divided ["self", "other"] (spDiv K a.Ratio a.BadRatio)) (b_Ratio_divided : Binds K fd_Ratio_divided ["self", "other"] [])
    {fd__law_whole_right : FuncData} (G__law_whole_right : Fn P w K mg base CX0 7 a._law_whole_right fd__law_whole_right ["_law_one", "_law_many"] (spWr K)) (b__law_whole_right : Binds K fd__law_whole_right ["_law_one", "_law_many"] [])
    {fd__law_pair_right : FuncData} (G__law_pair_right : Fn P w K mg base CX0 6 a._law_pair_right fd__law_pair_right ["_law_one", "_law_other"] (spPr K)) (b__law_pair_right : Binds K fd__law_pair_right ["_law_one", "_law_other"] [])
    {fd__law_of : FuncData} (G__law_of : Fn P w K mg base CX0 2 a._law_of fd__law_of ["_law_pot_here", "_law_some"] spOf) (b__law_of : Binds K fd__law_of ["_law_pot_here", "_law_some"] [])
    {fd__law_drawn : FuncData} (G__law_drawn : Fn P w K mg base CX0 3 a._law_drawn fd__law_drawn ["_law_pot_here"] spDrawn) (b__law_drawn : Binds K fd__law_drawn ["_law_pot_here"] [])
    : Fn P w K mg base CX0 8 a._law_right (PySem.W.fnOf "_law_right" "_law_right" (defArgs s__law_right) (defBody s__law_right) (defScope s__law_right) .none kV doc pm an (.ref cA) ct) ["_law_pot_here"] (spRight K Pt) := by
  refine fnOf lk hc sc__law_right (fun vs H Q E h => ?len) (fun A outer s H vs Q E hq hr h => ?body)
  case len => obtain ⟨p, k, rfl, _⟩ := h; rfl
  case body =>
    suffices z : ∃ t, PSs (cxOf CX0 P w K mg base ["_law_pot_here", "_law_one", "_law_other", "_law_many", "_law_odd_here", "_law_caught"] "_law_right" (defScope s__law_right) a._law_right (.ref cA) A outer s H E).nox (defBody s__law_right) t ∧ t { nx := fun _ H' => Q .non H', rt := Q } (L2.start ["_law_pot_here", "_law_one", "_law_other", "_law_many", "_law_odd_here", "_law_caught"] vs) H by
      obtain ⟨t, z1, z2⟩ := z
      exact ⟨t, z1.nox, z2⟩
    refine ⟨_, (pss_cons (ps_asg (pe_tup (pa_cons (pe_fn G__law_drawn hq (hr.mono (by omega)) (by rfl) T.g__law_drawn T.k__law_drawn b__law_drawn .nil pass0 (pa_cons (pv 0) pa_nil)) (pa_cons (pe_fn G__law_drawn hq (hr.mono (by omega)) (by rfl) T.g__law_drawn T.k__law_drawn b__law_drawn .nil pass0 (pa_cons (pv 0) pa_nil)) (pa_cons (pe_fn G__law_of hq (hr.mono (by omega)) (by rfl) T.g__law_of T.k__law_of b__law_of .nil pass0 (pa_cons (pv 0) (pa_cons (pe_lstS (pa_cons pe_int (pa_cons pe_int (pa_cons (pe_un un_neg pe_int) (pa_cons pe_int (pa_cons (pe_un un_neg pe_int) (pa_cons (pe_op op_powW pe_int pe_int) pa_nil))))))) pa_nil))) pa_nil)))) (pg_tup rfl (pgs_cons (pg_name (i := 1) sc__law_right.nd rfl (Or.inr rfl)) (pgs_cons (pg_name (i := 2) sc__law_right.nd rfl (Or.inl rfl)) (pgs_cons (pg_name (i := 3) sc__law_right.nd rfl (Or.inl rfl)) pgs_nil)))))
      (pss_cons (ps_if (PW.pt (pw_or (pt_not (pt_val (pe_fn G__law_pair_right hq (hr.mono (by omega)) (by rfl) T.g__law_pair_right T.k__law_pair_right b__law_pair_right .nil pass0 (pa_cons (pv 1) (pa_cons (pv 2) pa_nil))))) (pw_or (pt_not (pt_val (pe_fn G__law_pair_right hq (hr.mono (by omega)) (by rfl) T.g__law_pair_right T.k__law_pair_right b__law_pair_right .nil pass0 (pa_cons (pv 1) (pa_cons (pv 1) pa_nil))))) (pw_or1 (pt_not (pt_val (pe_fn G__law_whole_right hq (hr.mono (by omega)) (by rfl) T.g__law_whole_right T.k__law_whole_right b__law_whole_right .nil pass0 (pa_cons (pv 1) (pa_cons (pv 3) pa_nil))))))))) (pss_one (ps_ret pe_bl)) pss_nil)
      (pss_cons (ps_for PassesOwn.never rfl (pi_tup (pe_tup (pa_cons pe_int (pa_cons (pe_make T.m_Ratio G_Ratio___init__ (hr.mono (by omega)) (by rfl) T.g_Ratio d_Ratio___init__.2 d_Ratio___init__.1 pass0 (pa_cons pe_int pa_nil)) (pa_cons pe_bl (pa_cons pe_non (pa_cons pe_str (pa_cons (pe_tup (pa_cons pe_int pa_nil)) (pa_cons (pe_lstS pa_nil) (pa_cons (pe_fn G__law_odd hq (hr.mono (by omega)) (by rfl) T.g__law_odd T.k__law_odd b__law_odd .nil pass0 (pa_cons (pv 0) pa_nil)) pa_nil)))))))))) (pg_name (i := 4) sc__law_right.nd rfl (Or.inr rfl)) (pss_one (ps_if (PW.pt (pw_or (pt_val (pe_callB call_isi (by rfl) T.n_isinstance (by decide +kernel) (pa_cons (pv 4) (pa_cons (pe_glob (v := .ref a.Ratio) (by rfl) T.g_Ratio rfl) pa_nil)))) (pw_or (pt_cmpR (op_eq0 hr.units) (pv 4) pe_int (nomark _)) (pw_or1 (pt_not (pt_val (pe_fn G__law_is_int hq (hr.mono (by omega)) (by rfl) T.g__law_is_int T.k__law_is_int b__law_is_int .nil pass0 (pa_cons (pv 4) (pa_cons (pe_un un_neg (pe_op op_powW pe_int pe_int)) (pa_cons (pe_op op_powW pe_int pe_int) pa_nil)))))))))) (pss_cons (ps_set (i := 5) sc__law_right.nd rfl (Or.inl rfl) (pe_ix ix_tup (pe_asks (k := 5) (T := [(Pt, lamQ)]) (TT := TTold K a.AboutError) (t := tAsk K a) (Ng := ["_law_ask", "_law_caught", "_law_back", "error"]) (by rfl) T.g__law_told T.k__law_told lkt hct bt sc__law_told rfl (.inl rfl) (told_asks T.g_AboutError _ _ _) TB rfl (List.mem_singleton.mpr rfl) (fun q hq _ => by rw [List.mem_singleton.mp hq]; rfl) (hr.mono (by omega)) (lamS_by (sc := defScope s__law_right) (by decide +kernel)) rfl (fun _ _ _ _ _ => rfl) (fun A outer s H E f c' hr2 => (pe_meth (pe_make T.m_Ratio G_Ratio___init__ (hr2.mono (by omega)) (by rfl) T.g_Ratio b_Ratio___init__ .nil pass0 (pa_cons (pe_ix (show IxR _ (rIxT K) from ix_tup) (pv 1) pe_int (fun _ _ => rfl)) (pa_cons (pe_ix (show IxR _ (rIxT K) from ix_tup) (pv 1) pe_int (fun _ _ => rfl)) pa_nil))) T.cl T.dv G_Ratio_divided (hr2.mono (by omega)) b_Ratio_divided .nil (passes_call (takes_of rfl rfl rfl rfl) fun _ _ _ _ h => h) (pa_cons (pv 4) pa_nil)))) pe_int (fun _ _ => rfl)))
      (pss_one (ps_if (PW.pt (pw_or (pt_not (pt_val (pe_callB (call_isCaught T.ek) (by rfl) T.n_isinstance (by decide +kernel) (pa_cons (pv 5) (pa_cons (pe_glob (v := .ref a.BadRatio) (by rfl) T.g_BadRatio rfl) pa_nil))))) (pw_or1 (pt_cmpR op_ne (pe_callB (call_repr2 hq hr.units T.reprA T.reprF (fnR G_Ratio___repr__ b_Ratio___repr__) (hr.mono (by omega)) pass0) (by rfl) T.n_repr (by decide +kernel) (pa_cons (pe_valueC (pv 5)) pa_nil)) (pe_callB (call_repr2 hq hr.units T.reprA T.reprF (fnR G_Ratio___repr__ b_Ratio___repr__) (hr.mono (by omega)) pass0) (by rfl) T.n_repr (by decide +kernel) (pa_cons (pv 4) pa_nil)) (nomark _))))) (pss_one (ps_ret pe_bl)) pss_nil))) pss_nil)))
      (pss_one (ps_ret pe_bl))))), ?_⟩
    obtain ⟨p, k, rfl, pot, hk, tabs, q⟩ := h
    -- two fractions, and an integer
    refine ⟨_, rfl, p, k, rfl, pot, by omega, fun v1 H1 n1 u1 g1 pr1 rd1 a1 b1 c1 => ?_⟩
    refine ⟨_, rfl, p, k + 5, rfl, g1.pot, by omega, fun v2 H2 n2 u2 g2 pr2 rd2 a2 b2 c2 => ?_⟩
    refine ⟨_, rfl, _, rfl, _, rfl, _, _, rfl, rfl, cpow9, (by show 6 ≤ sizeLine; decide), fun l hl sl => ?_⟩
    have g12 : Go p (k + 5 + 5) H H2 := g1.trans g2
    have nl : l ≠ p := fun z => g12.pot.has (by rw [← z]; exact hl)
    refine ⟨p, l, k + 5 + 5, _, rfl, nl, g12.pot.same (same_new hl), by omega, upd_same, (by simp), (by show 6 ≤ 10 ^ 6; decide), fun x H3 hx g3 => ?_⟩
    obtain ⟨m, rfl, m0, m1⟩ : ∃ m : Int, x = .int m ∧ -(10 ^ 9) ≤ m ∧ m ≤ 10 ^ 9 := by
      simp only [List.mem_cons, List.not_mem_nil, or_false] at hx
      rcases hx with rfl | rfl | rfl | rfl | rfl | rfl <;> exact ⟨_, rfl, by decide, by decide⟩
    have g13 : Go p (k + 5 + 5 + 1) H H3 := g12.trans (Go.of (same_new hl) g3)
    have kp23 : Kp p H2 H3 := Kp.trans (Kp.same (same_new hl)) (Kp.go g3)
    have kp13 : Kp p H1 H3 := Kp.trans (Kp.go g2) kp23
    have w1 : PairAt (vw p H3) v1 n1 u1 := (PairAt.vw g1.pot pr1).same kp13
    have w2 : PairAt (vw p H3) v2 n2 u2 := (PairAt.vw g2.pot pr2).same kp23
    have tabs3 := Tabs.go g13 pot tabs
    have pot3 := g13.pot
    have k03 := Kp.go g13
    have s1 : Sm n1 := sm_of a1 b1
    have s2 : Sm u1 := sm_of (by have := rd1.pos; omega) c1
    have s3 : Sm n2 := sm_of a2 b2
    have s4 : Sm u2 := sm_of (by have := rd2.pos; omega) c2
    refine ⟨(by show 3 ≤ sizeLine; decide), fun t0 f0 => ⟨t0, _, rfl, SqT.of upd_same, rfl, ?_⟩⟩
    have k04 : Kp p H (upd H3 t0 (.tup [v1, v2, .int m])) := k03.trans (Kp.same (same_new f0))
    replace w1 := w1.same (Kp.same (p := p) (same_new (o := .tup [v1, v2, .int m]) f0))
    replace w2 := w2.same (Kp.same (p := p) (same_new (o := .tup [v1, v2, .int m]) f0))
    replace tabs3 := Tabs.ext tabs3 (same_new (o := .tup [v1, v2, .int m]) f0)
    replace pot3 := pot3.same (same_new (o := .tup [v1, v2, .int m]) f0)
    generalize (upd H3 t0 (.tup [v1, v2, .int m])) = H4 at k04 w1 w2 tabs3 pot3 ⊢
    -- the pairs, beside an integer
    refine ⟨_, _, rfl, _, _, rfl, _, _, rfl, rfl, ?_⟩
    refine ⟨_, rfl, _, rfl, _, _, n1, u1, n2, u2, rfl, w1.same (vw_le _ _), w2.same (vw_le _ _), rd1, rd2, s1, s2, s3, s4, fun H5 S5 => ⟨_, rfl, iteF ?_⟩⟩
    replace w1 := w1.same (Kp.same (p := p) S5)
    refine ⟨_, rfl, _, rfl, _, _, n1, u1, n1, u1, rfl, w1.same (vw_le _ _), w1.same (vw_le _ _), rd1, rd1, s1, s2, s1, s2, fun H6 S6 => ⟨_, rfl, iteF ?_⟩⟩
    replace w1 := w1.same (Kp.same (p := p) S6)
    refine ⟨_, rfl, _, rfl, _, n1, u1, m, rfl, w1.same (vw_le _ _), rd1, s1, s2, ⟨by omega, by omega⟩, fun H7 S7 => ⟨_, rfl, iteF ?_⟩⟩
    replace w1 := w1.same (Kp.same (p := p) S7)
    have S47 : Same H4 H7 := (S5.trans S6).trans S7
    have k07 : Kp p H H7 := k04.trans (Kp.same S47)
    have tabs7 := Tabs.ext tabs3 S47
    have pot7 := pot3.same S47
    clear S47 S7 S6 S5 k04 tabs3 pot3
    -- what is asked to divide
    intro x8 d8 c8 c9 c10
    refine mk_at (n := 0) (u := 1) (by decide) (by decide +kernel) c8 c9 c10 fun H8 S8 hr8 => ⟨rfl, ?_⟩
    obtain ⟨r, er⟩ : ∃ r, r = V.ref x8 := ⟨_, rfl⟩
    rw [← er] at hr8 ⊢
    have e0 := (red_int 0).same
    rw [e0.1, e0.2] at hr8
    refine ⟨(by show 1 ≤ sizeLine; decide), fun t9 f9 => ⟨(by show 0 ≤ sizeLine; decide), fun l10 f10 s10 => ?_⟩⟩
    have S9 := same_new (o := .tup [.int 2]) f9
    have S10 := same_new (o := .lst []) f10
    have S710 := (S8.trans S9).trans S10
    have pot10 := pot7.same S710
    have tp10 : upd (upd H8 t9 (.tup [.int 2])) l10 (.lst []) t9 = some (.tup [.int 2]) := S10 _ _ upd_same
    have ls10 : upd (upd H8 t9 (.tup [.int 2])) l10 (.lst []) l10 = some (.lst []) := upd_same
    have hr10 := hr8.same (S9.trans S10)
    have nl10 : l10 ≠ p := fun z => (pot7.same (S8.trans S9)).has (by rw [← z]; exact f10)
    generalize upd (upd H8 t9 (.tup [.int 2])) l10 (.lst []) = H10 at S710 pot10 tp10 ls10 hr10 ⊢
    refine ⟨_, rfl, p, _, rfl, pot10, (by omega), fun v11 H11 i11 g11 => ?_⟩
    have k1011 : Kp p H10 H11 := Kp.go g11
    refine ⟨(by show 8 ≤ sizeLine; decide), fun t12 f12 => ?_⟩
    have S12 := same_new (o := .tup [.int 0, r, .bl true, .non, .str "2", .ref t9, .ref l10, v11]) f12
    have k712 : Kp p H7 (upd H11 t12 (.tup [.int 0, r, .bl true, .non, .str "2", .ref t9, .ref l10, v11])) := ((Kp.same S710).trans k1011).trans (Kp.same S12)
    have k1012 : Kp p H10 (upd H11 t12 (.tup [.int 0, r, .bl true, .non, .str "2", .ref t9, .ref l10, v11])) := k1011.trans (Kp.same S12)
    have tabs12 := Tabs.ext (Tabs.go g11 pot10 (Tabs.ext tabs7 S710)) S12
    have pot12 := g11.pot.same S12
    have t12' : (upd H11 t12 (.tup [.int 0, r, .bl true, .non, .str "2", .ref t9, .ref l10, v11])) t12 = some (.tup [.int 0, r, .bl true, .non, .str "2", .ref t9, .ref l10, v11]) := upd_same
    have n12 : t12 ≠ p := fun z => g11.pot.has (by rw [← z]; exact f12)
    have obs : ∀ x ∈ [V.int 0, r, .bl true, .non, .str "2", .ref t9, .ref l10, v11], Ob a.Ratio p (upd H11 t12 (.tup [.int 0, r, .bl true, .non, .str "2", .ref t9, .ref l10, v11])) x := by
      intro x hx
      have og : ∀ d, gdB 60 4 d = true → (∀ i, d = .int i → -(10 ^ 9) ≤ i ∧ i ≤ 10 ^ 9) → OddG d := fun d h1 h2 => ⟨gdB_ok h1, h2⟩
      simp only [List.mem_cons, List.not_mem_nil, or_false] at hx
      rcases hx with rfl | rfl | rfl | rfl | rfl | rfl | rfl | rfl
      · exact .inr ⟨_, .int 0, og _ (by decide +kernel) fun i e => by cases e; decide⟩
      · exact .inl ((RatAt.vw pot10 hr10).same k1012)
      · exact .inr ⟨_, .bl true, og _ (by decide +kernel) fun i e => nomatch e⟩
      · exact .inr ⟨_, .non, og _ (by decide +kernel) fun i e => nomatch e⟩
      · exact .inr ⟨_, .str "2", og _ (by decide +kernel) fun i e => nomatch e⟩
      · refine .inr ⟨_, .tup (k1012 _ _ (vw_at tp10 (fun z => ?_) fun _ z => nomatch z)) (.cons (.int 2) .nil), og _ (by decide +kernel) fun i e => nomatch e⟩
        obtain ⟨_, _, _, f, _⟩ := pot10
        rw [z, f] at tp10
        cases tp10
      · exact .inr ⟨_, .lst (k1012 _ _ (vw_at ls10 nl10 fun _ z => nomatch z)) s10 .nil, og _ (by decide +kernel) fun i e => nomatch e⟩
      · obtain ⟨d, hd, gd⟩ := i11 (fun b => b = p) fun b e => by rw [e]; exact pot10.has
        exact .inr ⟨d, (da_strip hd).same (Kp.same (p := p) S12), gd⟩
    have w12 := w1.same k712
    have k012 := k07.trans k712
    generalize (upd H11 t12 (.tup [.int 0, r, .bl true, .non, .str "2", .ref t9, .ref l10, v11])) = H12 at k712 k1012 tabs12 pot12 t12' obs w12 k012 ⊢
    refine ⟨t12, rfl, ⟨_, SqT.of t12'⟩, for_it (walk_tup (xs := [V.int 0, r, .bl true, .non, .str "2", .ref t9, .ref l10, v11]))
      (fun i σ H' => ∃ s4 s5, σ = [some (.ref p), some v1, some v2, some (.int m), s4, s5] ∧ Kp p H12 H' ∧ Tabs [(Pt, lamQ)] H' ∧ PotAt H' p (k + 5 + 5 + 1 + 1)) ⟨none, none, rfl, Kp.refl _ _, tabs12, pot12⟩ ?_ ?_ ?_⟩
    · rintro i σ H' _ ⟨s4, s5, _, kp, _, _⟩
      exact SqT.of (kp.at t12' n12 fun _ z => nomatch z)
    · rintro i x σ H' H'' hi ⟨s4, s5, rfl, kp, tb, pt⟩ ⟨rfl, hx⟩
      have ob := (obs x (List.mem_of_getElem? hx)).kp kp
      have w' := w12.same kp
      rcases asked_or T ob with ⟨nod, path⟩ | ⟨j, rfl, j0, j1, j2⟩
      · apply cut_
        case f =>
          intro ask
          rcases path with ty | ⟨d, hd, zz⟩
          · exact ⟨_, rfl, _, _, _, _, true, rfl, .own _, ty, T.ri.ks, true, rfl, iteT ask⟩
          · obtain ⟨t, ty1, ty2, ty3⟩ := da_ty T hd
            refine ⟨_, rfl, _, _, _, _, false, rfl, .own _, ty1, ty2, false, rfl, iteF ?_⟩
            refine ⟨_, rfl, d, rfl, hd, _, rfl, ?_⟩
            rcases zz with zz | ⟨zz, ni⟩
            · rw [zz]
              exact iteT ask
            · rw [zz]
              refine iteF ?_
              rcases ty3 with ⟨i, e, _⟩ | ⟨b, e, k1, k2⟩ | ⟨_, _, k1, k2⟩
              · exact absurd e (ni i)
              · refine ⟨_, rfl, _, _, rfl, rfl, cpow12, _, rfl, _, _, rfl, rfl, cpow12, _, _, _, _, _, _, rfl, ty1, k1, k2, .inl ⟨rfl, _, rfl, iteT ask⟩⟩
              · refine ⟨_, rfl, _, _, rfl, rfl, cpow12, _, rfl, _, _, rfl, rfl, cpow12, _, _, _, _, _, _, rfl, ty1, k1, k2, .inl ⟨rfl, _, rfl, iteT ask⟩⟩
        case s =>
          refine iteT ?_
          refine ⟨tb, fun Ha Sa Ta => ?_⟩
          intro Hb Sb E' Q' hE hQ
          have kb : Kp p H'' Hb := (Kp.ext Sa).trans (Kp.same Sb)
          obtain ⟨y1, rfl, hy⟩ := (w'.same kb).same (vw_le _ _)
          refine ⟨_, rfl, _, _, _, _, rfl, rfl, SqT.of hy, rfl, _, rfl, _, _, _, _, rfl, rfl, SqT.of hy, rfl, ?_⟩
          intro x1 dx1 c1 c2 c3
          refine mk_at (by have := rd1.pos; omega) (small200 s2) c1 c2 c3 fun Hc Sc rc => ⟨rfl, ?_⟩
          have kc := kb.trans (Kp.same Sc)
          obtain ⟨_, dc, ec, hc⟩ := id rc
          obtain rfl := V.ref.inj ec
          refine ⟨x1, dc, _, rfl, hc, rfl, x, rfl, _, _, _, _, rfl, rc, .inr ⟨nod _ kc, fun d Hd Sd hd => ?_⟩⟩
          refine hE a.BadRatio (some d) Hd T.x_BadRatio fun e he t ht => ?_
          have Se := same_new (o := exc e a.BadRatio (some d)) he
          have St := same_new (o := .tup [.ref e, .non]) ht
          have kf : Kp p H'' (upd (upd Hd e (exc e a.BadRatio (some d))) t (.tup [.ref e, .non])) := ((kc.trans (Kp.same Sd)).trans (Kp.same Se)).trans (Kp.same St)
          have Saf : Same Ha (upd (upd Hd e (exc e a.BadRatio (some d))) t (.tup [.ref e, .non])) := (((Sb.trans Sc).trans Sd).trans Se).trans St
          have tbf := Tabs.ext Ta Saf
          have ptf := (pt.ext Sa).same Saf
          have ct : Caught (upd (upd Hd e (exc e a.BadRatio (some d))) t (.tup [.ref e, .non])) e a.BadRatio x := ⟨d, St _ _ upd_same, St _ _ (Se _ _ hd)⟩
          refine ⟨_, _, _, _, rfl, rfl, SqT.of upd_same, rfl, ?_⟩
          have obf := ob.kp kf
          generalize (upd (upd Hd e (exc e a.BadRatio (some d))) t (.tup [.ref e, .non])) = Hf at kf tbf ptf ct obf ⊢
          refine ⟨_, rfl, e, a.BadRatio, x, _, _, true, rfl, .own _, T.c_BadRatio, ct, T.t_BadRatio, _, rfl, iteF ?_⟩
          rcases obf with o | ⟨dd, hdd, gd⟩
          · obtain ⟨z, dz, rfl, hz⟩ := o.same (vw_le _ _)
            refine ⟨_, rfl, e, a.BadRatio, _, rfl, T.c_BadRatio, ct, .inr ⟨z, dz, _, rfl, hz, _, 0, rfl, ⟨z, dz, rfl, hz⟩, by decide, by decide +kernel, fun Hg Sg => ⟨_, rfl, _, rfl, .inr ⟨z, dz, _, rfl, Sg _ _ hz, _, 0, rfl, ⟨z, dz, rfl, Sg _ _ hz⟩, by decide, by decide +kernel, fun Hh Sh => ?_⟩⟩⟩⟩
            refine ⟨_, rfl, rfl, _, rfl, iteNS rfl ?_⟩
            exact ⟨_, _, rfl, (kp.trans kf).trans (Kp.same (Sg.trans Sh)), Tabs.ext tbf (Sg.trans Sh), ptf.same (Sg.trans Sh)⟩
          · refine ⟨_, rfl, e, a.BadRatio, x, rfl, T.c_BadRatio, ct, .inl ⟨x, dd, _, _, rfl, hdd.same (vw_le _ _), gd.1, ⟨by decide, by decide⟩, ?_⟩⟩
            refine ⟨_, rfl, .inl ⟨x, dd, _, _, rfl, hdd.same (vw_le _ _), gd.1, ⟨by decide, by decide⟩, rfl, _, rfl, iteNS rfl ?_⟩⟩
            exact ⟨_, _, rfl, kp.trans kf, tbf, ptf⟩
      · refine ⟨_, rfl, _, _, _, _, false, rfl, .own _, .base (.int j), T.ri.kt _ (by simp), false, rfl, iteF ?_⟩
        refine ⟨_, rfl, _, rfl, .int j, _, rfl, ?_⟩
        have zj : zeroD (.int j) = false := by
          show (j == 0) = false
          simp [j0]
        rw [zj]
        refine iteF ?_
        refine ⟨_, rfl, _, _, rfl, rfl, cpow12, _, rfl, _, _, rfl, rfl, cpow12, _, _, true, false, _, _, rfl, .base (.int j), kit_ty (by decide +kernel), kit_ty (by decide +kernel), .inr ⟨rfl, j, rfl, _, rfl, ?_⟩⟩
        have bj : (decide (-(10 ^ (12 : Int).toNat) ≤ j) && decide (j ≤ 10 ^ (12 : Int).toNat)) = true := by
          rw [Bool.and_eq_true]
          exact ⟨decide_eq_true (by show -(10 ^ 12) ≤ j; omega), decide_eq_true (by show j ≤ 10 ^ 12; omega)⟩
        rw [bj]
        refine iteF ?_
        exact ⟨_, _, rfl, kp, tb, pt⟩
    · rintro σ H' ⟨s4, s5, rfl, kp, tb, pt⟩
      exact q H' (k012.trans kp) (pt.mono (by omega)) tb
end
end My

namespace My
open PySem PySem.Spec PyProof.Rows L2 G LamX
abbrev s_law : Stmt := topS 35
theorem sc_law : FnScope ["_law_script", "_law_place", "_law_pot_here", "_law_turn"] ["_law_script"] (defScope s_law) := ⟨rfl, rfl, rfl, by decide +kernel, rfl, by decide +kernel, by decide +kernel⟩

def spLaw (K : PySem.W.Frag) (Pt : Addr) : Sp := fun vs H Q _ => ∃ (s : Addr) (ns : List Int), vs = [.ref s] ∧ SqL K H s (ns.map V.int) ∧ ns.length ≤ 63 ∧ Tabs [(Pt, lamQ)] H ∧ ∀ H', Q (.bl true) H'
theorem sql_ext {K : PySem.W.Frag} {H H' : Hp} {a : Addr} {xs : List V} (e : ExtN H H') (h : SqL K H a xs) : SqL K H' a xs := by
  rcases h with (h | ⟨o, h⟩) | h
  · exact .inl (.inl (e _ _ h fun _ z => nomatch z))
  · exact .inl (.inr ⟨o, e _ _ h fun _ z => nomatch z⟩)
  · exact .inr h
theorem Kp.over {p D : Addr} {H H' : Hp} {ys : List V} (k : Kp p H H') (n : H D = none) : Kp p H (upd H' D (.lst ys)) := fun b o e => by
  obtain ⟨nb, eb, t⟩ := vw_some e
  exact vw_at (by rw [upd_ne (ne_of_none eb n)]; exact k.at eb nb t) nb t
theorem PotAt.over {p D : Addr} {k : Nat} {H : Hp} {o : HO} (h : PotAt H p k) (n : D ≠ p) : PotAt (upd H D o) p k := by
  obtain ⟨x, y, z, e, r⟩ := h
  exact ⟨x, y, z, by rw [upd_ne n.symm]; exact e, r⟩
theorem Tabs.over {T : List (Addr × Str)} {D : Addr} {H : Hp} {xs ys : List V} (t : Tabs T H) (hD : H D = some (.lst xs)) : Tabs T (upd H D (.lst ys)) := fun x hx => by
  obtain ⟨ps, h1, h2, h3⟩ := t x hx
  refine ⟨ps, by rw [upd_ne (lst_ne hD h1 fun _ z => nomatch z)]; exact h1, h2, fun ps cv hc => ?_⟩
  obtain ⟨y, e1, e2⟩ := h3 ps cv hc
  exact ⟨y, e1, by rw [upd_ne (lst_ne hD e2 fun _ => codeO_no)]; exact e2⟩
section
variable {P : Program} {w : World} {K : PySem.W.Frag} {mg : Str → Option Value} {base : Heap} {a : Ad} {Pt : Addr}
theorem ok_law {fd : FuncData} (F : Fun K "law" "law" s_law a.law fd) (T : Txt K mg a)
    {fd__law_places : FuncData} (G__law_places : Fn P w K mg base CX0 1 a._law_places fd__law_places ["_law_script", "_law_most"] (spPlaces K)) (b__law_places : Binds K fd__law_places ["_law_script", "_law_most"] [])
    {fd__law_right : FuncData} (G__law_right : Fn P w K mg base CX0 8 a._law_right fd__law_right ["_law_pot_here"] (spRight K Pt)) (b__law_right : Binds K fd__law_right ["_law_pot_here"] [])
    {fd__law_pot : FuncData} (G__law_pot : Fn P w K mg base CX0 1 a._law_pot fd__law_pot ["_law_script", "_law_k"] (spPot K)) (b__law_pot : Binds K fd__law_pot ["_law_script", "_law_k"] []) :
    Fn P w K mg base CX0 9 a.law fd ["_law_script"] (spLaw K Pt) := by
  refine ok F sc_law (fun vs H Q E h => ?len) (fun cdv A outer s H vs Q E hq hr h => ⟨_,
      (pss_cons (ps_for PassesOwn.never rfl (pi_list (pe_fn G__law_places hq (hr.mono (by omega)) (by rfl) T.g__law_places T.k__law_places b__law_places .nil pass0 (pa_cons (pv 0) (pa_cons pe_int pa_nil)))) (pg_name (i := 1) sc_law.nd rfl (Or.inl rfl)) (pss_cons (ps_set (i := 2) sc_law.nd rfl (Or.inr rfl) (pe_fn G__law_pot hq (hr.mono (by omega)) (by rfl) T.g__law_pot T.k__law_pot b__law_pot .nil pass0 (pa_cons (pv 0) (pa_cons (pv 1) pa_nil))))
      (pss_one (ps_if (pt_not (pt_val (pe_callB (cr_all rfl) (by rfl) T.n_all (by decide +kernel) (pa_cons (pe_lc (own := [("_law_turn", 3)]) (g := gName 3) (tt := tYes) rfl sc_law.nd (pi_range1 (by rfl) T.n_range (pa_cons pe_int pa_nil)) (blkOk_by (own := [("_law_turn", 3)]) (N := ["_law_script", "_law_place", "_law_pot_here", "_law_turn"]) (sc := defScope s_law) (by decide +kernel)) (fun _ _ _ _ _ => pg_name (i := 3) sc_law.nd rfl (Or.inl rfl)) (fun _ _ _ _ _ => pts_nil) (fun _ _ _ _ _ => (pe_fn G__law_right hq (hr.mono (by omega)) (by rfl) T.g__law_right T.k__law_right b__law_right .nil pass0 (pa_cons (pv 2) pa_nil)))) pa_nil)))) (pss_one (ps_ret pe_bl)) pss_nil))))
      (pss_one (ps_ret pe_bl))), ?body⟩)
  case len => obtain ⟨s, ns, rfl, _⟩ := h; rfl
  case body =>
    obtain ⟨s, ns, rfl, hs, hl, tabs, q⟩ := h
    refine ⟨_, rfl, s, ns, 6, rfl, hs, hl, by decide, by decide, fun l n H1 nl S1 hn hl1 => ?_⟩
    have ln : (rgV 0 n).length = n := by rw [rgV_length]; omega
    refine ⟨l, rfl, ⟨_, SqL.of hl1⟩, for_it (walk_list (xs := rgV 0 n)) (fun i σ H' => ∃ s1 s2 s3, σ = [some (.ref s), s1, s2, s3] ∧ ExtN H1 H' ∧ Tabs [(Pt, lamQ)] H') ⟨none, none, none, rfl, ExtN.refl _, Tabs.ext tabs S1⟩ ?_ ?_ ?_⟩
    · rintro i σ H' _ ⟨s1, s2, s3, _, e, _⟩
      exact sql_ext e (SqL.of hl1)
    · rintro i x σ H' H'' hi ⟨s1, s2, s3, rfl, e, tb⟩ ⟨rfl, hx⟩
      obtain ⟨hi1, hi2⟩ := List.getElem?_eq_some_iff.mp hx
      obtain rfl : V.int (0 + (i : Nat)) = x := by
        have z := hx
        unfold rgV at z
        rw [List.getElem?_map, List.getElem?_range (by omega)] at z
        exact Option.some.inj z
      refine ⟨_, rfl, _, rfl, s, ns, 0 + (i : Nat), rfl, sql_ext e (S1.seq hs), hl, by omega, by omega, fun p H2 np S2 pot => ?_⟩
      refine ⟨6, rfl, by decide, by decide, fun D hD => ?_⟩
      have nD : D ≠ p := fun z => pot.has (by rw [← z]; exact hD)
      refine lc_range (fun i H3 => Kp p H2 H3 ∧ H3 D = some (.lst ((List.replicate i true).map V.bl)) ∧ PotAt H3 p (20 * i) ∧ Tabs [(Pt, lamQ)] H3)
        ⟨Kp.same (same_new hD), upd_same, pot.same (same_new hD), Tabs.ext (Tabs.ext tb S2) (same_new hD)⟩ ?_ ?_
      · rintro j H3 hj ⟨k3, d3, p3, t3⟩
        refine ⟨rfl, ?_⟩
        refine ⟨_, rfl, p, 20 * j, rfl, p3, by omega, t3, fun H4 k4 p4 t4 => ?_⟩
        have d4 := k4.at d3 nD fun _ z => nomatch z
        refine ⟨_, d4, by rw [List.length_map, List.length_replicate, sizeLine_eq]; omega, (k3.trans k4).over hD, ?_, (p4.mono (by omega)).over nD, Tabs.over t4 d4⟩
        rw [upd_same, List.replicate_succ', List.map_append]; rfl
      · rintro H3 ⟨k3, d3, p3, t3⟩
        refine ⟨D, _, rfl, SqL.of d3, _, rfl, ?_⟩
        refine iteF ⟨_, _, _, rfl, fun b o eb t => ?_, t3⟩
        have eb' := S2 _ _ (e _ _ eb t)
        refine k3.at eb' (fun z => ?_) t
        have ez := e _ _ eb t
        rw [z, np] at ez
        cases ez
    · rintro σ H' ⟨s1, s2, s3, rfl, e, tb⟩
      exact q _
end
end My

namespace G
open PySem PySem.Spec PyProof.Rows L2 LamX

/-! ### the law's own call, where defs of the text make lambdas; entered while nothing shows itself -/
/-- an empty table of code objects -/
abbrev bareTab : Obj := { cls := .none, data := .fields #[] }
/-- the abstract heap at the entry: the script, if the text does not know it, and the tables -/
def atEntry (K : PySem.W.Frag) (a : Addr) (vs : List Value) (ns : List Int) (ts : List Addr) : Hp := fun b =>
  if b ∈ ts then some (.tbl #[]) else if b = a ∧ K.lookup a = none then some (.frz { cls := .type "list", data := .seq vs.toArray } (.lst (ns.map V.int))) else none
section
variable {K : PySem.W.Frag} {a b : Addr} {vs : List Value} {ns : List Int} {ts : List Addr}
theorem ae_tab (h : b ∈ ts) : atEntry K a vs ns ts b = some (.tbl #[]) := if_pos h
theorem ae_scr (h : a ∉ ts) (k : K.lookup a = none) : atEntry K a vs ns ts a = some (.frz { cls := .type "list", data := .seq vs.toArray } (.lst (ns.map V.int))) := (if_neg h).trans (if_pos ⟨rfl, k⟩)
theorem ae_off (h : b ∉ ts) (n : ¬ (b = a ∧ K.lookup a = none)) : atEntry K a vs ns ts b = none := (if_neg h).trans (if_neg n)
theorem ae_or : (b ∈ ts ∧ atEntry K a vs ns ts b = some (.tbl #[])) ∨ (b ∉ ts ∧ b = a ∧ K.lookup a = none ∧ atEntry K a vs ns ts b = some (.frz { cls := .type "list", data := .seq vs.toArray } (.lst (ns.map V.int)))) ∨ (b ∉ ts ∧ atEntry K a vs ns ts b = none) := by
  by_cases h1 : b ∈ ts
  · exact .inl ⟨h1, ae_tab h1⟩
  · by_cases h2 : b = a ∧ K.lookup a = none
    · exact .inr (.inl ⟨h1, h2.1, h2.2, (if_neg h1).trans (if_pos h2)⟩)
    · exact .inr (.inr ⟨h1, ae_off h1 h2⟩)
end
theorem lawCallT {P : Program} {w : World} {K : PySem.W.Frag} {mg mb : Str → Option Value} {k : Nat} {fa a : Addr} {cs : List (Addr × Addr)} {fd : FuncData} {x : Str} {sp : Sp} {s₁ : Shared} {vs : List Value} {ns : List Int}
    (KX : K.In s₁.heap) (glob : s₁.heap.Ns mainGlobals mg) (bltn : s₁.heap.Ns builtinsNs mb) (boot : ∀ x : Str, x ≠ "__name__" → mb x = bootBuiltins x) (lim : s₁.heap.NoLimit) (gens : s₁.gens = #[])
    (mods : ∃ (bm : Addr) (ob : Obj), mg "__builtins__" = some (.ref bm) ∧ bm ≠ builtinsNs ∧ s₁.heap.get? bm = some ob ∧ ob.cls = .type "module" ∧ ob.dict = some builtinsNs ∧ ob.data = .plain)
    (bare : ∀ p ∈ cs, s₁.heap.get? p.2 = some bareTab) (noK : ∀ p ∈ cs, K.lookup p.2 = none) (code : ∀ p ∈ cs, PySem.W.CodeHd s₁.heap p.1 p.2)
    (obj : s₁.heap.get? a = some { cls := .type "list", data := .seq vs.toArray }) (nums : IntsAre vs ns) (short : ns.length ≤ sizeLine) (room : Room k callerA)
    (F : ∀ base : Heap, K.In base → base.Ns mainGlobals mg → (∀ p ∈ cs, TabB base mg p.1 p.2) → Fn P w K mg base CX0 k fa fd [x] sp) (bind : ∀ (s : Shared) (u : Value), BindsTo s fd ⟨[u], []⟩ [(x, u)])
    (told : ∀ H : Hp, (∀ p ∈ cs, H p.2 = some (.tbl #[])) → SqL K H a (ns.map V.int) → sp [.ref a] H (fun v _ => v = .bl true) fun _ _ _ => False) :
    codeAny (model P w) callerA (.call (.ref fa) ⟨[.ref a], []⟩) (fun r s' => r = .ok (.ret (.bool true)) ∧ OldK s₁.heap s'.heap ∧ s'.os = s₁.os ∧ AllBare s'.gens) s₁ := by
  have rv := vals_ints nums
  have lenV := nums.length
  let ts : List Addr := cs.map (·.2)
  let H : Hp := atEntry K a vs ns ts
  have inT : ∀ p ∈ cs, p.2 ∈ ts := fun p hp => List.mem_map.mpr ⟨p, hp, rfl⟩
  have tabT : ∀ b ∈ ts, s₁.heap.get? b = some bareTab := fun b hb => by
    obtain ⟨p, hp, rfl⟩ := List.mem_map.mp hb
    exact bare p hp
  have aT : a ∉ ts := fun z => by
    have q := (tabT a z).symm.trans obj
    cases q
  have offK : ∀ {b : Addr} {o : Obj}, K.lookup b = some o → H b = none := fun {b o} e => by
    rcases ae_or (K := K) (a := a) (b := b) (vs := vs) (ns := ns) (ts := ts) with ⟨h, _⟩ | ⟨_, rfl, n, _⟩ | ⟨_, z⟩
    · obtain ⟨p, hp, rfl⟩ := List.mem_map.mp h
      rw [noK p hp] at e
      cases e
    · rw [n] at e
      cases e
    · exact z
  -- what is neither a list nor an empty table is not hidden
  have off : ∀ {b : Addr} {o : Obj}, s₁.heap.get? b = some o → (∀ its n, o.data ≠ .seq its n) → o.data ≠ .fields #[] → H b = none := fun {b o} e h1 h2 => by
    rcases ae_or (K := K) (a := a) (b := b) (vs := vs) (ns := ns) (ts := ts) with ⟨h, _⟩ | ⟨_, rfl, _, _⟩ | ⟨_, z⟩
    · obtain rfl := Option.some.inj (e.symm.trans (tabT b h))
      exact absurd rfl h2
    · obtain rfl := Option.some.inj (e.symm.trans obj)
      exact absurd rfl (h1 _ _)
    · exact z
  have offD : ∀ {b : Addr} {o : Obj} {es : Array DictEntry} {ep : Nat}, s₁.heap.get? b = some o → o.data = .dict es ep → H b = none := fun e d => off e (fun _ _ z => by rw [d] at z; cases z) fun z => by rw [d] at z; cases z
  have hok : HOk P w H s₁.heap := fun b u z => by
    rcases ae_or (K := K) (a := a) (b := b) (vs := vs) (ns := ns) (ts := ts) with ⟨h, e⟩ | ⟨_, rfl, _, e⟩ | ⟨_, e⟩
    · obtain rfl := Option.some.inj (e.symm.trans z)
      exact tabT b h
    · obtain rfl := Option.some.inj (e.symm.trans z)
      exact ⟨obj, by rw [List.length_map]; exact short, vs, _, rv, obj⟩
    · exact absurd (e.symm.trans z) (by simp)
  have seq : SqL K H a (ns.map V.int) := by
    cases hk : K.lookup a with
    | none => exact .inl (.inr ⟨_, ae_scr aT hk⟩)
    | some o =>
      obtain rfl := Option.some.inj ((KX a o hk).symm.trans obj)
      exact .inr ⟨_, vs.toArray, _, hk, rfl, rfl, rfl, by rw [List.size_toArray, lenV]; exact short, by simpa using rv⟩
  have ns0 : ∀ {b : Addr} {m : Str → Option Value}, s₁.heap.Ns b m → (hidT s₁.heap H).Ns b m := by
    rintro b m ⟨o, es, ep, e, d, r⟩
    exact ⟨o, es, ep, hidT_get e (offD e d), d, r⟩
  have in0 : K.In (hidT s₁.heap H) := fun b o e => hidT_get (KX b o e) (offK e)
  have M : Mod K mg (hidT s₁.heap H) := by
    obtain ⟨mc, l1, l2⟩ := lim
    exact ⟨in0, ns0 glob, ⟨mb, ns0 bltn, boot⟩, ⟨mc, ns0 l1, l2⟩⟩
  obtain ⟨og, eg, pg, gg, dg, _⟩ := id glob
  have TB : ∀ p ∈ cs, TabB (hidT s₁.heap H) mg p.1 p.2 := fun p hp => by
    have hp0 := bare p hp
    refine ⟨?cd, ?bm, fun z => ?_⟩
    case cd =>
      obtain ⟨o, us, f1, f2, f3, f4, f5, f6, f7, e, c1, c2, c3, rest⟩ := code p hp
      refine ⟨o, us, f1, f2, f3, f4, f5, f6, f7, hidT_get e (off e (fun _ _ z => ?_) fun z => ?_), c1, c2, c3, rest⟩
      · rw [c2] at z
        cases z
      · rw [c2] at z
        obtain rfl := Data.fields.inj z
        simp at c3
    case bm =>
      obtain ⟨bm, ob, m1, m2, m3, m4, m5, m6⟩ := mods
      refine ⟨bm, ob, m1, m2, fun z => ?_, fun z => ?_, hidT_get m3 (off m3 (fun _ _ z => by rw [m6] at z; cases z) fun z => by rw [m6] at z; cases z), m4, m5, m6⟩
      · rw [z, gg] at m3
        obtain rfl := Option.some.inj m3
        rw [dg] at m6
        cases m6
      · rw [z, hp0] at m3
        obtain rfl := Option.some.inj m3
        cases m6
    · rw [z, hp0] at gg
      obtain rfl := Option.some.inj gg
      cases dg
  have nof : ∀ b : Addr, ¬ b ∈ frs ([] : List Env) := fun b z => nomatch (show b ∈ ([] : List Addr) from z)
  have e0 : Env0 P w K mg (hidT s₁.heap H) callerA [] s₁ H := ⟨rfl, M, fun b o e => of_hidT e, Nat.le_of_eq (hidT_size _ _), trivial, fun b hb => absurd hb (nof b), hok, .of_eq gens⟩
  refine codeAny_mono ((F _ in0 (ns0 glob) TB).run callerA [] s₁ H ⟨[.ref a], []⟩ [.ref a] [.ref a] _ _ rfl room e0 (bind s₁ (.ref a)) (.cons rfl .nil) (told H (fun p hp => ae_tab (inT p hp)) seq)) ?_
  intro r s' h
  match r, h with
  | .error e, h => exact h.elim
  | .ok .next, h => exact h.elim
  | .ok .brk, h => exact h.elim
  | .ok .cont, h => exact h.elim
  | .ok (.ret u), h =>
    obtain ⟨v, H', os, allb, un, hok', ru, rfl⟩ := h
    obtain rfl : u = Value.bool true := ru
    -- an object that is no table is as it was
    have kept : ∀ b o, b ∉ ts → s₁.heap.get? b = some o → s'.heap.get? b = some o := fun b o nb e => by
      rcases ae_or (K := K) (a := a) (b := b) (vs := vs) (ns := ns) (ts := ts) with ⟨h, _⟩ | ⟨_, rfl, _, z⟩ | ⟨_, z⟩
      · exact absurd h nb
      · have s1 := (hok b _ z).1
        have s2 := (hok' b _ (un.frzs b _ _ z)).1
        exact s2.trans (s1.symm.trans e)
      · exact un.keep b o e z (nof b) (fun z => nomatch z)
    have more : ∀ b ∈ ts, ∃ ext : Array Value, s'.heap.get? b = some { cls := .none, data := .fields ext } := fun b hb => by
      obtain ⟨ext, z⟩ := un.tbls b #[] (ae_tab hb)
      exact ⟨_, hok' b _ z⟩
    refine ⟨rfl, ⟨fun b o e => ?_, fun b o e => ?_⟩, os, allb⟩
    · by_cases hb : b ∈ ts
      · obtain ⟨p, hp, rfl⟩ := List.mem_map.mp hb
        obtain ⟨ext, z⟩ := more _ hb
        obtain rfl := Option.some.inj ((bare p hp).symm.trans e)
        refine .inr (.inl ⟨((code p hp).tab (bare p hp)).isCodeTable, rfl, #[], ext, rfl, ?_⟩)
        rw [Array.empty_append]
        exact z
      · exact .inl (kept b o hb e)
    · by_cases hb : b ∈ ts
      · obtain ⟨ext, z⟩ := more b hb
        exact ⟨_, z⟩
      · exact ⟨o, kept b o hb e⟩
/-- what is to be shown of the law at the head's heap -/
def LawT (P : Program) (w : World) (K : PySem.W.Frag) (k n : Nat) (x : Str) (mg : Str → Option Value) (fa : Addr) (h : Heap) : Prop :=
  ∃ (fd : FuncData) (cs : List (Addr × Addr)) (sp : Sp), (∀ p ∈ cs, h.get? p.2 = some bareTab ∧ K.lookup p.2 = none ∧ PySem.W.CodeHd h p.1 p.2) ∧ (∀ (s : Shared) (u : Value), BindsTo s fd ⟨[u], []⟩ [(x, u)]) ∧
    (∀ (H : Hp) (a : Addr) (ns : List Int), ns.length ≤ n → (∀ p ∈ cs, H p.2 = some (.tbl #[])) → SqL K H a (ns.map V.int) → sp [.ref a] H (fun v _ => v = .bl true) fun _ _ _ => False) ∧
    ∀ base : Heap, K.In base → base.Ns mainGlobals mg → (∀ p ∈ cs, TabB base mg p.1 p.2) → Fn P w K mg base CX0 k fa fd [x] sp
/-- the tables of a text's defs are empty at the law's entry -/
def Bare (mg : Str → Option Value) (h : Heap) (nm : Str) : Prop := ∃ f o fd c T, mg nm = some (.ref f) ∧ h.get? f = some o ∧ o.data = .func fd ∧ fd.code = .ref c ∧ PySem.W.CodeHd h c T ∧ h.get? T = some bareTab
theorem walkOfT {l : PySem.W.OpenLaw} {n k : Nat} {q : Program} {loose : List Str} {XP : (Str → Option Value) → Heap → Prop} {YP : World → Heap → Prop} {d : DefRec} {K : Params → PySem.W.Frag} {x : Str} {names : List Str}
    (hn : l.most = some n) (hn2 : n ≤ sizeLine) (hdf : d.params.defaults = []) (hr : Room k callerA) (hrec : (names.all fun nm => (recsOf q).any fun e => e.name == nm) = true) (hY : ∀ (w : World) (h : Heap), YP w h → (K w.params).In h)
    (F : ∀ (w : World) (mg : Str → Option Value) (fa : Addr) (h : Heap), (K w.params).In h → h.Ns mainGlobals mg → mg d.name = some (.ref fa) → (∀ nm ∈ names, Bare mg h nm) → LawT l.prog w (K w.params) k n x mg fa h) :
    PySem.W.WalkO q loose XP YP l.row.toRowW d [] (fun f vs => PySem.call f vs) := by
  apply Att.attach_call hn hdf
  intro w s₀ s₁ mg mb fa o pm cd doc a vs ns G Y ho hd hcd hmg hobj hints hlen hg
  have KX := hY w _ Y
  have tabs : ∀ nm ∈ names, Bare mg s₁.heap nm := fun nm hnm => by
    obtain ⟨r, hm, e⟩ := List.any_eq_true.mp (List.all_eq_true.mp hrec nm hnm)
    obtain ⟨f, o', fd', c, T, t1, t2, t3, t4, t5, t6⟩ := G.T.tab r hm
    rw [beq_iff_eq.mp e] at t1
    exact ⟨f, o', fd', c, T, t1, t2, t3, t4, PySem.W.CodeHd.of t5 t6, t6.2⟩
  obtain ⟨fd, cs, sp, facts, hb, told, hF⟩ := F w mg fa _ KX G.T.g hmg tabs
  exact lawCallT KX G.T.g G.T.b G.T.builtins G.T.nolimit hg G.T.bmain (fun p hp => (facts p hp).1) (fun p hp => (facts p hp).2.1) (fun p hp => (facts p hp).2.2) hobj hints (Nat.le_trans hlen hn2) hr hF hb fun H hH hS => told H a ns hlen hH hS
end G

namespace My
open PySem PySem.Spec PyProof.Rows L2 G LamX
abbrev s_init : Stmt := inClass (topS 2) 0
theorem sc_init : FnScope ["self", "value"] ["self", "value"] (defScope s_init) := ⟨rfl, rfl, rfl, by decide +kernel, rfl, by decide +kernel, by decide +kernel⟩
theorem ok_init {P : Program} {w : World} {K : PySem.W.Frag} {mg : Str → Option Value} {base : Heap} {f : Addr} {fd : FuncData} (F : Fun K "__init__" "AboutError.__init__" s_init f fd) : FnOk P w K mg base CX0 1 f fd ["self", "value"] (spErrInit K) := by
  refine F.ok sc_init (fun vs H Q E h => ?_) (fun cdv A outer s H vs Q E hr h => ?_)
  · obtain ⟨p, C, v, rfl, _⟩ := h
    rfl
  · obtain ⟨p, C, v, rfl, T, nv, hp, q⟩ := h
    exact ⟨_, pss_one (ps_ost (pv 0) (pv 1)), _, rfl, _, rfl, p, C, rfl, T, nv, .inl ⟨hp, fun dx h1 h2 => q dx h1 h2⟩⟩

theorem all_mk {P : Program} {w : World} {K : PySem.W.Frag} {h : Heap} {mg : Str → Option Value} {fa : Addr} (X : K.In h) (G : h.Ns mainGlobals mg) (hfa : mg "law" = some (.ref fa))
    (bare__law_right : Bare mg h "_law_right")
    {tP : Tok}
    {C_AboutError C_BadRatio C_Ratio f_init : Addr}
    {nm_AboutError q_AboutError : Str} {N_AboutError : Addr} {bs_AboutError : List Value} {sn_AboutError : List Str} {sub_AboutError : List Value} {ab_AboutError : Bool} {col_AboutError : Option Bool} {dd_AboutError : Option Addr} {m0_AboutError m1_AboutError m2_AboutError m3_AboutError m5_AboutError : Option Value}
    {nm_BadRatio q_BadRatio : Str} {N_BadRatio : Addr} {bs_BadRatio : List Value} {sn_BadRatio : List Str} {sub_BadRatio : List Value} {ab_BadRatio : Bool} {col_BadRatio : Option Bool} {dd_BadRatio : Option Addr} {m0_BadRatio m1_BadRatio m2_BadRatio m3_BadRatio m5_BadRatio : Option Value}
    {od_init an_init : Option Addr} {sl_init : Array (Option Value)} {oc_init kV_init dc_init pm_init cd_init ct_init : Value}
    {f__law_told : Addr}
    {od__law_told an__law_told : Option Addr} {sl__law_told : Array (Option Value)} {oc__law_told kV__law_told dc__law_told pm__law_told cd__law_told ct__law_told : Value}
    {f_is_integer : Addr}
    {od_is_integer an_is_integer : Option Addr} {sl_is_integer : Array (Option Value)} {oc_is_integer kV_is_integer dc_is_integer pm_is_integer cd_is_integer ct_is_integer : Value}
    {f_is_number : Addr}
    {od_is_number an_is_number : Option Addr} {sl_is_number : Array (Option Value)} {oc_is_number kV_is_number dc_is_number pm_is_number cd_is_number ct_is_number : Value}
    {f_Ratio___init__ : Addr}
    {od_Ratio___init__ an_Ratio___init__ : Option Addr} {sl_Ratio___init__ : Array (Option Value)} {oc_Ratio___init__ kV_Ratio___init__ dc_Ratio___init__ pm_Ratio___init__ cd_Ratio___init__ ct_Ratio___init__ : Value}
    {dT_Ratio___init__ : Addr} {cT_Ratio___init__ : Value} {eT_Ratio___init__ : Option Addr} {its_Ratio___init__ : List Value} {mT_Ratio___init__ : Nat} {sT_Ratio___init__ : Array (Option Value)}
    {f_as_ratio : Addr}
    {od_as_ratio an_as_ratio : Option Addr} {sl_as_ratio : Array (Option Value)} {oc_as_ratio kV_as_ratio dc_as_ratio pm_as_ratio cd_as_ratio ct_as_ratio : Value}
    {f_difference : Addr}
    {od_difference an_difference : Option Addr} {sl_difference : Array (Option Value)} {oc_difference kV_difference dc_difference pm_difference cd_difference ct_difference : Value}
    {f_Ratio___add__ : Addr}
    {od_Ratio___add__ an_Ratio___add__ : Option Addr} {sl_Ratio___add__ : Array (Option Value)} {oc_Ratio___add__ kV_Ratio___add__ dc_Ratio___add__ pm_Ratio___add__ cd_Ratio___add__ ct_Ratio___add__ : Value}
    {f_Ratio___radd__ : Addr}
    {od_Ratio___radd__ an_Ratio___radd__ : Option Addr} {sl_Ratio___radd__ : Array (Option Value)} {oc_Ratio___radd__ kV_Ratio___radd__ dc_Ratio___radd__ pm_Ratio___radd__ cd_Ratio___radd__ ct_Ratio___radd__ : Value}
    {f_Ratio___sub__ : Addr}
    {od_Ratio___sub__ an_Ratio___sub__ : Option Addr} {sl_Ratio___sub__ : Array (Option Value)} {oc_Ratio___sub__ kV_Ratio___sub__ dc_Ratio___sub__ pm_Ratio___sub__ cd_Ratio___sub__ ct_Ratio___sub__ : Value}
    {f_Ratio___rsub__ : Addr}
    {od_Ratio___rsub__ an_Ratio___rsub__ : Option Addr} {sl_Ratio___rsub__ : Array (Option Value)} {oc_Ratio___rsub__ kV_Ratio___rsub__ dc_Ratio___rsub__ pm_Ratio___rsub__ cd_Ratio___rsub__ ct_Ratio___rsub__ : Value}
    {f_Ratio___mul__ : Addr}
    {od_Ratio___mul__ an_Ratio___mul__ : Option Addr} {sl_Ratio___mul__ : Array (Option Value)} {oc_Ratio___mul__ kV_Ratio___mul__ dc_Ratio___mul__ pm_Ratio___mul__ cd_Ratio___mul__ ct_Ratio___mul__ : Value}
    {f_Ratio___rmul__ : Addr}
    {od_Ratio___rmul__ an_Ratio___rmul__ : Option Addr} {sl_Ratio___rmul__ : Array (Option Value)} {oc_Ratio___rmul__ kV_Ratio___rmul__ dc_Ratio___rmul__ pm_Ratio___rmul__ cd_Ratio___rmul__ ct_Ratio___rmul__ : Value}
    {f_Ratio___neg__ : Addr}
    {od_Ratio___neg__ an_Ratio___neg__ : Option Addr} {sl_Ratio___neg__ : Array (Option Value)} {oc_Ratio___neg__ kV_Ratio___neg__ dc_Ratio___neg__ pm_Ratio___neg__ cd_Ratio___neg__ ct_Ratio___neg__ : Value}
    {f_Ratio___abs__ : Addr}
    {od_Ratio___abs__ an_Ratio___abs__ : Option Addr} {sl_Ratio___abs__ : Array (Option Value)} {oc_Ratio___abs__ kV_Ratio___abs__ dc_Ratio___abs__ pm_Ratio___abs__ cd_Ratio___abs__ ct_Ratio___abs__ : Value}
    {f_Ratio___lt__ : Addr}
    {od_Ratio___lt__ an_Ratio___lt__ : Option Addr} {sl_Ratio___lt__ : Array (Option Value)} {oc_Ratio___lt__ kV_Ratio___lt__ dc_Ratio___lt__ pm_Ratio___lt__ cd_Ratio___lt__ ct_Ratio___lt__ : Value}
    {f_Ratio___le__ : Addr}
    {od_Ratio___le__ an_Ratio___le__ : Option Addr} {sl_Ratio___le__ : Array (Option Value)} {oc_Ratio___le__ kV_Ratio___le__ dc_Ratio___le__ pm_Ratio___le__ cd_Ratio___le__ ct_Ratio___le__ : Value}
    {f_Ratio___gt__ : Addr}
    {od_Ratio___gt__ an_Ratio___gt__ : Option Addr} {sl_Ratio___gt__ : Array (Option Value)} {oc_Ratio___gt__ kV_Ratio___gt__ dc_Ratio___gt__ pm_Ratio___gt__ cd_Ratio___gt__ ct_Ratio___gt__ : Value}
    {f_Ratio___ge__ : Addr}
    {od_Ratio___ge__ an_Ratio___ge__ : Option Addr} {sl_Ratio___ge__ : Array (Option Value)} {oc_Ratio___ge__ kV_Ratio___ge__ dc_Ratio___ge__ pm_Ratio___ge__ cd_Ratio___ge__ ct_Ratio___ge__ : Value}
    {f_Ratio_divided : Addr}
    {od_Ratio_divided an_Ratio_divided : Option Addr} {sl_Ratio_divided : Array (Option Value)} {oc_Ratio_divided kV_Ratio_divided dc_Ratio_divided pm_Ratio_divided cd_Ratio_divided ct_Ratio_divided : Value}
    {f__law_pot : Addr}
    {od__law_pot an__law_pot : Option Addr} {sl__law_pot : Array (Option Value)} {oc__law_pot kV__law_pot dc__law_pot pm__law_pot cd__law_pot ct__law_pot : Value}
    {f__law_take : Addr}
    {od__law_take an__law_take : Option Addr} {sl__law_take : Array (Option Value)} {oc__law_take kV__law_take dc__law_take pm__law_take cd__law_take ct__law_take : Value}
    {f__law_of : Addr}
    {od__law_of an__law_of : Option Addr} {sl__law_of : Array (Option Value)} {oc__law_of kV__law_of dc__law_of pm__law_of cd__law_of ct__law_of : Value}
    {f__law_places : Addr}
    {od__law_places an__law_places : Option Addr} {sl__law_places : Array (Option Value)} {oc__law_places kV__law_places dc__law_places pm__law_places cd__law_places ct__law_places : Value}
    {f__law_is_int : Addr}
    {od__law_is_int an__law_is_int : Option Addr} {sl__law_is_int : Array (Option Value)} {oc__law_is_int kV__law_is_int dc__law_is_int pm__law_is_int cd__law_is_int ct__law_is_int : Value}
    {f__law_common : Addr}
    {od__law_common an__law_common : Option Addr} {sl__law_common : Array (Option Value)} {oc__law_common kV__law_common dc__law_common pm__law_common cd__law_common ct__law_common : Value}
    {f__law_pair : Addr}
    {od__law_pair an__law_pair : Option Addr} {sl__law_pair : Array (Option Value)} {oc__law_pair kV__law_pair dc__law_pair pm__law_pair cd__law_pair ct__law_pair : Value}
    {f__law_pair_of : Addr}
    {od__law_pair_of an__law_pair_of : Option Addr} {sl__law_pair_of : Array (Option Value)} {oc__law_pair_of kV__law_pair_of dc__law_pair_of pm__law_pair_of cd__law_pair_of ct__law_pair_of : Value}
    {f__law_sum : Addr}
    {od__law_sum an__law_sum : Option Addr} {sl__law_sum : Array (Option Value)} {oc__law_sum kV__law_sum dc__law_sum pm__law_sum cd__law_sum ct__law_sum : Value}
    {f__law_product : Addr}
    {od__law_product an__law_product : Option Addr} {sl__law_product : Array (Option Value)} {oc__law_product kV__law_product dc__law_product pm__law_product cd__law_product ct__law_product : Value}
    {f__law_order : Addr}
    {od__law_order an__law_order : Option Addr} {sl__law_order : Array (Option Value)} {oc__law_order kV__law_order dc__law_order pm__law_order cd__law_order ct__law_order : Value}
    {f__law_drawn : Addr}
    {od__law_drawn an__law_drawn : Option Addr} {sl__law_drawn : Array (Option Value)} {oc__law_drawn kV__law_drawn dc__law_drawn pm__law_drawn cd__law_drawn ct__law_drawn : Value}
    {f__law_odd : Addr}
    {od__law_odd an__law_odd : Option Addr} {sl__law_odd : Array (Option Value)} {oc__law_odd kV__law_odd dc__law_odd pm__law_odd cd__law_odd ct__law_odd : Value}
    {f__law_pair_right : Addr}
    {od__law_pair_right an__law_pair_right : Option Addr} {sl__law_pair_right : Array (Option Value)} {oc__law_pair_right kV__law_pair_right dc__law_pair_right pm__law_pair_right cd__law_pair_right ct__law_pair_right : Value}
    {f__law_whole_right : Addr}
    {od__law_whole_right an__law_whole_right : Option Addr} {sl__law_whole_right : Array (Option Value)} {oc__law_whole_right kV__law_whole_right dc__law_whole_right pm__law_whole_right cd__law_whole_right ct__law_whole_right : Value}
    {f_written : Addr}
    {od_written an_written : Option Addr} {sl_written : Array (Option Value)} {oc_written kV_written dc_written pm_written cd_written ct_written : Value}
    {f_Ratio___repr__ : Addr}
    {od_Ratio___repr__ an_Ratio___repr__ : Option Addr} {sl_Ratio___repr__ : Array (Option Value)} {oc_Ratio___repr__ kV_Ratio___repr__ dc_Ratio___repr__ pm_Ratio___repr__ cd_Ratio___repr__ ct_Ratio___repr__ : Value}
    {f__law_right : Addr}
    {od__law_right an__law_right : Option Addr} {sl__law_right : Array (Option Value)} {oc__law_right kV__law_right dc__law_right pm__law_right  ct__law_right : Value}
    {cA__law_right Pt__law_right : Addr} {eC__law_right : Value} {dC__law_right : Option Addr} {vC__law_right : Array Value} {sC__law_right : Array (Option Value)}
    {f_law : Addr}
    {od_law an_law : Option Addr} {sl_law : Array (Option Value)} {oc_law kV_law dc_law pm_law cd_law ct_law : Value}
    (n_abs : PySem.W.nsIn K mainGlobals "abs" = some none)
    (n_all : PySem.W.nsIn K mainGlobals "all" = some none)
    (n_bool : PySem.W.nsIn K mainGlobals "bool" = some none)
    (n_int : PySem.W.nsIn K mainGlobals "int" = some none)
    (n_isinstance : PySem.W.nsIn K mainGlobals "isinstance" = some none)
    (n_len : PySem.W.nsIn K mainGlobals "len" = some none)
    (n_list : PySem.W.nsIn K mainGlobals "list" = some none)
    (n_max : PySem.W.nsIn K mainGlobals "max" = some none)
    (n_min : PySem.W.nsIn K mainGlobals "min" = some none)
    (n_range : PySem.W.nsIn K mainGlobals "range" = some none)
    (n_repr : PySem.W.nsIn K mainGlobals "repr" = some none)
    (n_divmod : PySem.W.nsIn K mainGlobals "divmod" = some none)
    (n_str : PySem.W.nsIn K mainGlobals "str" = some none)
    (gP : PySem.W.nsIn K mainGlobals "_PART" = some (some (.int 10000000000000000000000000000000000000000000000000000000000000000 tP)))
    (gG : PySem.W.nsIn K mainGlobals "gcd" = some (some (.builtin "math.gcd")))
    (g_AboutError : PySem.W.nsIn K mainGlobals "AboutError" = some (some (.ref C_AboutError)))
    (g_BadRatio : PySem.W.nsIn K mainGlobals "BadRatio" = some (some (.ref C_BadRatio)))
    (x_AboutError : K.lookup C_AboutError = some (excClassObj nm_AboutError q_AboutError C_AboutError N_AboutError bs_AboutError [.type "ValueError", .type "Exception", .type "BaseException", .type "object"] true sn_AboutError sub_AboutError ab_AboutError col_AboutError dd_AboutError m0_AboutError m1_AboutError m2_AboutError m3_AboutError m5_AboutError "ValueError.__new__"))
    (x_BadRatio : K.lookup C_BadRatio = some (excClassObj nm_BadRatio q_BadRatio C_BadRatio N_BadRatio bs_BadRatio (.ref C_AboutError :: [.type "ValueError", .type "Exception", .type "BaseException", .type "object"]) true sn_BadRatio sub_BadRatio ab_BadRatio col_BadRatio dd_BadRatio m0_BadRatio m1_BadRatio m2_BadRatio m3_BadRatio m5_BadRatio "ValueError.__new__"))
    (i0 : PySem.W.findIn K (.ref C_AboutError) "__init__" = some (some (.ref f_init)))
    (tI : PySem.W.typeIn K (.ref f_init) = some (.type "function"))
    (sp : PySem.W.specialIn K (.builtin "object.__class__") "__get__" = some (some (.builtin "getset_descriptor.__get__")))
    (tk : PySem.W.takesIn K (.builtin "object.__class__") = some true)
    (eb : ([C_AboutError, C_BadRatio].all fun C => ecB K f_init C) = true)
    (g_Ratio : PySem.W.nsIn K mainGlobals "Ratio" = some (some (.ref C_Ratio)))
    (l_init : K.lookup f_init = some ⟨oc_init, od_init, .func (PySem.W.fnOf "__init__" "AboutError.__init__" (defArgs s_init) (defBody s_init) (defScope s_init) .none kV_init dc_init pm_init an_init cd_init ct_init), sl_init⟩)
    (c_init : PySem.W.codeIn K cd_init "AboutError.__init__" = true)
    (k_init : PySem.W.keepIn K (.ref f_init) = true)
    (g__law_told : PySem.W.nsIn K mainGlobals "_law_told" = some (some (.ref f__law_told)))
    (l__law_told : K.lookup f__law_told = some ⟨oc__law_told, od__law_told, .func (PySem.W.fnOf "_law_told" "_law_told" (defArgs s__law_told) (defBody s__law_told) (defScope s__law_told) .none kV__law_told dc__law_told pm__law_told an__law_told cd__law_told ct__law_told), sl__law_told⟩)
    (c__law_told : PySem.W.codeIn K cd__law_told "_law_told" = true)
    (k__law_told : PySem.W.keepIn K (.ref f__law_told) = true)
    (g_is_integer : PySem.W.nsIn K mainGlobals "is_integer" = some (some (.ref f_is_integer)))
    (l_is_integer : K.lookup f_is_integer = some ⟨oc_is_integer, od_is_integer, .func (PySem.W.fnOf "is_integer" "is_integer" (defArgs s_is_integer) (defBody s_is_integer) (defScope s_is_integer) .none kV_is_integer dc_is_integer pm_is_integer an_is_integer cd_is_integer ct_is_integer), sl_is_integer⟩)
    (c_is_integer : PySem.W.codeIn K cd_is_integer "is_integer" = true)
    (k_is_integer : PySem.W.keepIn K (.ref f_is_integer) = true)
    (g_is_number : PySem.W.nsIn K mainGlobals "is_number" = some (some (.ref f_is_number)))
    (l_is_number : K.lookup f_is_number = some ⟨oc_is_number, od_is_number, .func (PySem.W.fnOf "is_number" "is_number" (defArgs s_is_number) (defBody s_is_number) (defScope s_is_number) .none kV_is_number dc_is_number pm_is_number an_is_number cd_is_number ct_is_number), sl_is_number⟩)
    (c_is_number : PySem.W.codeIn K cd_is_number "is_number" = true)
    (k_is_number : PySem.W.keepIn K (.ref f_is_number) = true)
    (g_Ratio___init__ : PySem.W.findIn K (.ref C_Ratio) "__init__" = some (some (.ref f_Ratio___init__)))
    (l_Ratio___init__ : K.lookup f_Ratio___init__ = some ⟨oc_Ratio___init__, od_Ratio___init__, .func (PySem.W.fnOf "__init__" "Ratio.__init__" (defArgs s_Ratio___init__) (defBody s_Ratio___init__) (defScope s_Ratio___init__) (.ref dT_Ratio___init__) kV_Ratio___init__ dc_Ratio___init__ pm_Ratio___init__ an_Ratio___init__ cd_Ratio___init__ ct_Ratio___init__), sl_Ratio___init__⟩)
    (c_Ratio___init__ : PySem.W.codeIn K cd_Ratio___init__ "Ratio.__init__" = true)
    (k_Ratio___init__ : PySem.W.keepIn K (.ref f_Ratio___init__) = true)
    (d_Ratio___init__ : K.lookup dT_Ratio___init__ = some ⟨cT_Ratio___init__, eT_Ratio___init__, .seq its_Ratio___init__.toArray mT_Ratio___init__, sT_Ratio___init__⟩)
    (r_Ratio___init__ : Vals [.int 1] its_Ratio___init__)
    (g_as_ratio : PySem.W.nsIn K mainGlobals "as_ratio" = some (some (.ref f_as_ratio)))
    (l_as_ratio : K.lookup f_as_ratio = some ⟨oc_as_ratio, od_as_ratio, .func (PySem.W.fnOf "as_ratio" "as_ratio" (defArgs s_as_ratio) (defBody s_as_ratio) (defScope s_as_ratio) .none kV_as_ratio dc_as_ratio pm_as_ratio an_as_ratio cd_as_ratio ct_as_ratio), sl_as_ratio⟩)
    (c_as_ratio : PySem.W.codeIn K cd_as_ratio "as_ratio" = true)
    (k_as_ratio : PySem.W.keepIn K (.ref f_as_ratio) = true)
    (g_difference : PySem.W.nsIn K mainGlobals "difference" = some (some (.ref f_difference)))
    (l_difference : K.lookup f_difference = some ⟨oc_difference, od_difference, .func (PySem.W.fnOf "difference" "difference" (defArgs s_difference) (defBody s_difference) (defScope s_difference) .none kV_difference dc_difference pm_difference an_difference cd_difference ct_difference), sl_difference⟩)
    (c_difference : PySem.W.codeIn K cd_difference "difference" = true)
    (k_difference : PySem.W.keepIn K (.ref f_difference) = true)
    (g_Ratio___add__ : PySem.W.findIn K (.ref C_Ratio) "__add__" = some (some (.ref f_Ratio___add__)))
    (l_Ratio___add__ : K.lookup f_Ratio___add__ = some ⟨oc_Ratio___add__, od_Ratio___add__, .func (PySem.W.fnOf "__add__" "Ratio.__add__" (defArgs s_Ratio___add__) (defBody s_Ratio___add__) (defScope s_Ratio___add__) .none kV_Ratio___add__ dc_Ratio___add__ pm_Ratio___add__ an_Ratio___add__ cd_Ratio___add__ ct_Ratio___add__), sl_Ratio___add__⟩)
    (c_Ratio___add__ : PySem.W.codeIn K cd_Ratio___add__ "Ratio.__add__" = true)
    (k_Ratio___add__ : PySem.W.keepIn K (.ref f_Ratio___add__) = true)
    (g_Ratio___radd__ : PySem.W.findIn K (.ref C_Ratio) "__radd__" = some (some (.ref f_Ratio___radd__)))
    (l_Ratio___radd__ : K.lookup f_Ratio___radd__ = some ⟨oc_Ratio___radd__, od_Ratio___radd__, .func (PySem.W.fnOf "__radd__" "Ratio.__radd__" (defArgs s_Ratio___radd__) (defBody s_Ratio___radd__) (defScope s_Ratio___radd__) .none kV_Ratio___radd__ dc_Ratio___radd__ pm_Ratio___radd__ an_Ratio___radd__ cd_Ratio___radd__ ct_Ratio___radd__), sl_Ratio___radd__⟩)
    (c_Ratio___radd__ : PySem.W.codeIn K cd_Ratio___radd__ "Ratio.__radd__" = true)
    (k_Ratio___radd__ : PySem.W.keepIn K (.ref f_Ratio___radd__) = true)
    (g_Ratio___sub__ : PySem.W.findIn K (.ref C_Ratio) "__sub__" = some (some (.ref f_Ratio___sub__)))
    (l_Ratio___sub__ : K.lookup f_Ratio___sub__ = some ⟨oc_Ratio___sub__, od_Ratio___sub__, .func (PySem.W.fnOf "__sub__" "Ratio.__sub__" (defArgs s_Ratio___sub__) (defBody s_Ratio___sub__) (defScope s_Ratio___sub__) .none kV_Ratio___sub__ dc_Ratio___sub__ pm_Ratio___sub__ an_Ratio___sub__ cd_Ratio___sub__ ct_Ratio___sub__), sl_Ratio___sub__⟩)
    (c_Ratio___sub__ : PySem.W.codeIn K cd_Ratio___sub__ "Ratio.__sub__" = true)
    (k_Ratio___sub__ : PySem.W.keepIn K (.ref f_Ratio___sub__) = true)
    (g_Ratio___rsub__ : PySem.W.findIn K (.ref C_Ratio) "__rsub__" = some (some (.ref f_Ratio___rsub__)))
    (l_Ratio___rsub__ : K.lookup f_Ratio___rsub__ = some ⟨oc_Ratio___rsub__, od_Ratio___rsub__, .func (PySem.W.fnOf "__rsub__" "Ratio.__rsub__" (defArgs s_Ratio___rsub__) (defBody s_Ratio___rsub__) (defScope s_Ratio___rsub__) .none kV_Ratio___rsub__ dc_Ratio___rsub__ pm_Ratio___rsub__ an_Ratio___rsub__ cd_Ratio___rsub__ ct_Ratio___rsub__), sl_Ratio___rsub__⟩)
    (c_Ratio___rsub__ : PySem.W.codeIn K cd_Ratio___rsub__ "Ratio.__rsub__" = true)
    (k_Ratio___rsub__ : PySem.W.keepIn K (.ref f_Ratio___rsub__) = true)
    (g_Ratio___mul__ : PySem.W.findIn K (.ref C_Ratio) "__mul__" = some (some (.ref f_Ratio___mul__)))
    (l_Ratio___mul__ : K.lookup f_Ratio___mul__ = some ⟨oc_Ratio___mul__, od_Ratio___mul__, .func (PySem.W.fnOf "__mul__" "Ratio.__mul__" (defArgs s_Ratio___mul__) (defBody s_Ratio___mul__) (defScope s_Ratio___mul__) .none kV_Ratio___mul__ dc_Ratio___mul__ pm_Ratio___mul__ an_Ratio___mul__ cd_Ratio___mul__ ct_Ratio___mul__), sl_Ratio___mul__⟩)
    (c_Ratio___mul__ : PySem.W.codeIn K cd_Ratio___mul__ "Ratio.__mul__" = true)
    (k_Ratio___mul__ : PySem.W.keepIn K (.ref f_Ratio___mul__) = true)
    (g_Ratio___rmul__ : PySem.W.findIn K (.ref C_Ratio) "__rmul__" = some (some (.ref f_Ratio___rmul__)))
    (l_Ratio___rmul__ : K.lookup f_Ratio___rmul__ = some ⟨oc_Ratio___rmul__, od_Ratio___rmul__, .func (PySem.W.fnOf "__rmul__" "Ratio.__rmul__" (defArgs s_Ratio___rmul__) (defBody s_Ratio___rmul__) (defScope s_Ratio___rmul__) .none kV_Ratio___rmul__ dc_Ratio___rmul__ pm_Ratio___rmul__ an_Ratio___rmul__ cd_Ratio___rmul__ ct_Ratio___rmul__), sl_Ratio___rmul__⟩)
    (c_Ratio___rmul__ : PySem.W.codeIn K cd_Ratio___rmul__ "Ratio.__rmul__" = true)
    (k_Ratio___rmul__ : PySem.W.keepIn K (.ref f_Ratio___rmul__) = true)
    (g_Ratio___neg__ : PySem.W.findIn K (.ref C_Ratio) "__neg__" = some (some (.ref f_Ratio___neg__)))
    (l_Ratio___neg__ : K.lookup f_Ratio___neg__ = some ⟨oc_Ratio___neg__, od_Ratio___neg__, .func (PySem.W.fnOf "__neg__" "Ratio.__neg__" (defArgs s_Ratio___neg__) (defBody s_Ratio___neg__) (defScope s_Ratio___neg__) .none kV_Ratio___neg__ dc_Ratio___neg__ pm_Ratio___neg__ an_Ratio___neg__ cd_Ratio___neg__ ct_Ratio___neg__), sl_Ratio___neg__⟩)
    (c_Ratio___neg__ : PySem.W.codeIn K cd_Ratio___neg__ "Ratio.__neg__" = true)
    (k_Ratio___neg__ : PySem.W.keepIn K (.ref f_Ratio___neg__) = true)
    (g_Ratio___abs__ : PySem.W.findIn K (.ref C_Ratio) "__abs__" = some (some (.ref f_Ratio___abs__)))
    (l_Ratio___abs__ : K.lookup f_Ratio___abs__ = some ⟨oc_Ratio___abs__, od_Ratio___abs__, .func (PySem.W.fnOf "__abs__" "Ratio.__abs__" (defArgs s_Ratio___abs__) (defBody s_Ratio___abs__) (defScope s_Ratio___abs__) .none kV_Ratio___abs__ dc_Ratio___abs__ pm_Ratio___abs__ an_Ratio___abs__ cd_Ratio___abs__ ct_Ratio___abs__), sl_Ratio___abs__⟩)
    (c_Ratio___abs__ : PySem.W.codeIn K cd_Ratio___abs__ "Ratio.__abs__" = true)
    (k_Ratio___abs__ : PySem.W.keepIn K (.ref f_Ratio___abs__) = true)
    (g_Ratio___lt__ : PySem.W.findIn K (.ref C_Ratio) "__lt__" = some (some (.ref f_Ratio___lt__)))
    (l_Ratio___lt__ : K.lookup f_Ratio___lt__ = some ⟨oc_Ratio___lt__, od_Ratio___lt__, .func (PySem.W.fnOf "__lt__" "Ratio.__lt__" (defArgs s_Ratio___lt__) (defBody s_Ratio___lt__) (defScope s_Ratio___lt__) .none kV_Ratio___lt__ dc_Ratio___lt__ pm_Ratio___lt__ an_Ratio___lt__ cd_Ratio___lt__ ct_Ratio___lt__), sl_Ratio___lt__⟩)
    (c_Ratio___lt__ : PySem.W.codeIn K cd_Ratio___lt__ "Ratio.__lt__" = true)
    (k_Ratio___lt__ : PySem.W.keepIn K (.ref f_Ratio___lt__) = true)
    (g_Ratio___le__ : PySem.W.findIn K (.ref C_Ratio) "__le__" = some (some (.ref f_Ratio___le__)))
    (l_Ratio___le__ : K.lookup f_Ratio___le__ = some ⟨oc_Ratio___le__, od_Ratio___le__, .func (PySem.W.fnOf "__le__" "Ratio.__le__" (defArgs s_Ratio___le__) (defBody s_Ratio___le__) (defScope s_Ratio___le__) .none kV_Ratio___le__ dc_Ratio___le__ pm_Ratio___le__ an_Ratio___le__ cd_Ratio___le__ ct_Ratio___le__), sl_Ratio___le__⟩)
    (c_Ratio___le__ : PySem.W.codeIn K cd_Ratio___le__ "Ratio.__le__" = true)
    (k_Ratio___le__ : PySem.W.keepIn K (.ref f_Ratio___le__) = true)
    (g_Ratio___gt__ : PySem.W.findIn K (.ref C_Ratio) "__gt__" = some (some (.ref f_Ratio___gt__)))
    (l_Ratio___gt__ : K.lookup f_Ratio___gt__ = some ⟨oc_Ratio___gt__, od_Ratio___gt__, .func (PySem.W.fnOf "__gt__" "Ratio.__gt__" (defArgs s_Ratio___gt__) (defBody s_Ratio___gt__) (defScope s_Ratio___gt__) .none kV_Ratio___gt__ dc_Ratio___gt__ pm_Ratio___gt__ an_Ratio___gt__ cd_Ratio___gt__ ct_Ratio___gt__), sl_Ratio___gt__⟩)
    (c_Ratio___gt__ : PySem.W.codeIn K cd_Ratio___gt__ "Ratio.__gt__" = true)
    (k_Ratio___gt__ : PySem.W.keepIn K (.ref f_Ratio___gt__) = true)
    (g_Ratio___ge__ : PySem.W.findIn K (.ref C_Ratio) "__ge__" = some (some (.ref f_Ratio___ge__)))
    (l_Ratio___ge__ : K.lookup f_Ratio___ge__ = some ⟨oc_Ratio___ge__, od_Ratio___ge__, .func (PySem.W.fnOf "__ge__" "Ratio.__ge__" (defArgs s_Ratio___ge__) (defBody s_Ratio___ge__) (defScope s_Ratio___ge__) .none kV_Ratio___ge__ dc_Ratio___ge__ pm_Ratio___ge__ an_Ratio___ge__ cd_Ratio___ge__ ct_Ratio___ge__), sl_Ratio___ge__⟩)
    (c_Ratio___ge__ : PySem.W.codeIn K cd_Ratio___ge__ "Ratio.__ge__" = true)
    (k_Ratio___ge__ : PySem.W.keepIn K (.ref f_Ratio___ge__) = true)
    (g_Ratio_divided : PySem.W.findIn K (.ref C_Ratio) "divided" = some (some (.ref f_Ratio_divided)))
    (l_Ratio_divided : K.lookup f_Ratio_divided = some ⟨oc_Ratio_divided, od_Ratio_divided, .func (PySem.W.fnOf "divided" "Ratio.divided" (defArgs s_Ratio_divided) (defBody s_Ratio_divided) (defScope s_Ratio_divided) .none kV_Ratio_divided dc_Ratio_divided pm_Ratio_divided an_Ratio_divided cd_Ratio_divided ct_Ratio_divided), sl_Ratio_divided⟩)
    (c_Ratio_divided : PySem.W.codeIn K cd_Ratio_divided "Ratio.divided" = true)
    (k_Ratio_divided : PySem.W.keepIn K (.ref f_Ratio_divided) = true)
    (g__law_pot : PySem.W.nsIn K mainGlobals "_law_pot" = some (some (.ref f__law_pot)))
    (l__law_pot : K.lookup f__law_pot = some ⟨oc__law_pot, od__law_pot, .func (PySem.W.fnOf "_law_pot" "_law_pot" (defArgs s__law_pot) (defBody s__law_pot) (defScope s__law_pot) .none kV__law_pot dc__law_pot pm__law_pot an__law_pot cd__law_pot ct__law_pot), sl__law_pot⟩)
    (c__law_pot : PySem.W.codeIn K cd__law_pot "_law_pot" = true)
    (k__law_pot : PySem.W.keepIn K (.ref f__law_pot) = true)
    (g__law_take : PySem.W.nsIn K mainGlobals "_law_take" = some (some (.ref f__law_take)))
    (l__law_take : K.lookup f__law_take = some ⟨oc__law_take, od__law_take, .func (PySem.W.fnOf "_law_take" "_law_take" (defArgs s__law_take) (defBody s__law_take) (defScope s__law_take) .none kV__law_take dc__law_take pm__law_take an__law_take cd__law_take ct__law_take), sl__law_take⟩)
    (c__law_take : PySem.W.codeIn K cd__law_take "_law_take" = true)
    (k__law_take : PySem.W.keepIn K (.ref f__law_take) = true)
    (g__law_of : PySem.W.nsIn K mainGlobals "_law_of" = some (some (.ref f__law_of)))
    (l__law_of : K.lookup f__law_of = some ⟨oc__law_of, od__law_of, .func (PySem.W.fnOf "_law_of" "_law_of" (defArgs s__law_of) (defBody s__law_of) (defScope s__law_of) .none kV__law_of dc__law_of pm__law_of an__law_of cd__law_of ct__law_of), sl__law_of⟩)
    (c__law_of : PySem.W.codeIn K cd__law_of "_law_of" = true)
    (k__law_of : PySem.W.keepIn K (.ref f__law_of) = true)
    (g__law_places : PySem.W.nsIn K mainGlobals "_law_places" = some (some (.ref f__law_places)))
    (l__law_places : K.lookup f__law_places = some ⟨oc__law_places, od__law_places, .func (PySem.W.fnOf "_law_places" "_law_places" (defArgs s__law_places) (defBody s__law_places) (defScope s__law_places) .none kV__law_places dc__law_places pm__law_places an__law_places cd__law_places ct__law_places), sl__law_places⟩)
    (c__law_places : PySem.W.codeIn K cd__law_places "_law_places" = true)
    (k__law_places : PySem.W.keepIn K (.ref f__law_places) = true)
    (g__law_is_int : PySem.W.nsIn K mainGlobals "_law_is_int" = some (some (.ref f__law_is_int)))
    (l__law_is_int : K.lookup f__law_is_int = some ⟨oc__law_is_int, od__law_is_int, .func (PySem.W.fnOf "_law_is_int" "_law_is_int" (defArgs s__law_is_int) (defBody s__law_is_int) (defScope s__law_is_int) .none kV__law_is_int dc__law_is_int pm__law_is_int an__law_is_int cd__law_is_int ct__law_is_int), sl__law_is_int⟩)
    (c__law_is_int : PySem.W.codeIn K cd__law_is_int "_law_is_int" = true)
    (k__law_is_int : PySem.W.keepIn K (.ref f__law_is_int) = true)
    (g__law_common : PySem.W.nsIn K mainGlobals "_law_common" = some (some (.ref f__law_common)))
    (l__law_common : K.lookup f__law_common = some ⟨oc__law_common, od__law_common, .func (PySem.W.fnOf "_law_common" "_law_common" (defArgs s__law_common) (defBody s__law_common) (defScope s__law_common) .none kV__law_common dc__law_common pm__law_common an__law_common cd__law_common ct__law_common), sl__law_common⟩)
    (c__law_common : PySem.W.codeIn K cd__law_common "_law_common" = true)
    (k__law_common : PySem.W.keepIn K (.ref f__law_common) = true)
    (g__law_pair : PySem.W.nsIn K mainGlobals "_law_pair" = some (some (.ref f__law_pair)))
    (l__law_pair : K.lookup f__law_pair = some ⟨oc__law_pair, od__law_pair, .func (PySem.W.fnOf "_law_pair" "_law_pair" (defArgs s__law_pair) (defBody s__law_pair) (defScope s__law_pair) .none kV__law_pair dc__law_pair pm__law_pair an__law_pair cd__law_pair ct__law_pair), sl__law_pair⟩)
    (c__law_pair : PySem.W.codeIn K cd__law_pair "_law_pair" = true)
    (k__law_pair : PySem.W.keepIn K (.ref f__law_pair) = true)
    (g__law_pair_of : PySem.W.nsIn K mainGlobals "_law_pair_of" = some (some (.ref f__law_pair_of)))
    (l__law_pair_of : K.lookup f__law_pair_of = some ⟨oc__law_pair_of, od__law_pair_of, .func (PySem.W.fnOf "_law_pair_of" "_law_pair_of" (defArgs s__law_pair_of) (defBody s__law_pair_of) (defScope s__law_pair_of) .none kV__law_pair_of dc__law_pair_of pm__law_pair_of an__law_pair_of cd__law_pair_of ct__law_pair_of), sl__law_pair_of⟩)
    (c__law_pair_of : PySem.W.codeIn K cd__law_pair_of "_law_pair_of" = true)
    (k__law_pair_of : PySem.W.keepIn K (.ref f__law_pair_of) = true)
    (g__law_sum : PySem.W.nsIn K mainGlobals "_law_sum" = some (some (.ref f__law_sum)))
    (l__law_sum : K.lookup f__law_sum = some ⟨oc__law_sum, od__law_sum, .func (PySem.W.fnOf "_law_sum" "_law_sum" (defArgs s__law_sum) (defBody s__law_sum) (defScope s__law_sum) .none kV__law_sum dc__law_sum pm__law_sum an__law_sum cd__law_sum ct__law_sum), sl__law_sum⟩)
    (c__law_sum : PySem.W.codeIn K cd__law_sum "_law_sum" = true)
    (k__law_sum : PySem.W.keepIn K (.ref f__law_sum) = true)
    (g__law_product : PySem.W.nsIn K mainGlobals "_law_product" = some (some (.ref f__law_product)))
    (l__law_product : K.lookup f__law_product = some ⟨oc__law_product, od__law_product, .func (PySem.W.fnOf "_law_product" "_law_product" (defArgs s__law_product) (defBody s__law_product) (defScope s__law_product) .none kV__law_product dc__law_product pm__law_product an__law_product cd__law_product ct__law_product), sl__law_product⟩)
    (c__law_product : PySem.W.codeIn K cd__law_product "_law_product" = true)
    (k__law_product : PySem.W.keepIn K (.ref f__law_product) = true)
    (g__law_order : PySem.W.nsIn K mainGlobals "_law_order" = some (some (.ref f__law_order)))
    (l__law_order : K.lookup f__law_order = some ⟨oc__law_order, od__law_order, .func (PySem.W.fnOf "_law_order" "_law_order" (defArgs s__law_order) (defBody s__law_order) (defScope s__law_order) .none kV__law_order dc__law_order pm__law_order an__law_order cd__law_order ct__law_order), sl__law_order⟩)
    (c__law_order : PySem.W.codeIn K cd__law_order "_law_order" = true)
    (k__law_order : PySem.W.keepIn K (.ref f__law_order) = true)
    (g__law_drawn : PySem.W.nsIn K mainGlobals "_law_drawn" = some (some (.ref f__law_drawn)))
    (l__law_drawn : K.lookup f__law_drawn = some ⟨oc__law_drawn, od__law_drawn, .func (PySem.W.fnOf "_law_drawn" "_law_drawn" (defArgs s__law_drawn) (defBody s__law_drawn) (defScope s__law_drawn) .none kV__law_drawn dc__law_drawn pm__law_drawn an__law_drawn cd__law_drawn ct__law_drawn), sl__law_drawn⟩)
    (c__law_drawn : PySem.W.codeIn K cd__law_drawn "_law_drawn" = true)
    (k__law_drawn : PySem.W.keepIn K (.ref f__law_drawn) = true)
    (g__law_odd : PySem.W.nsIn K mainGlobals "_law_odd" = some (some (.ref f__law_odd)))
    (l__law_odd : K.lookup f__law_odd = some ⟨oc__law_odd, od__law_odd, .func (PySem.W.fnOf "_law_odd" "_law_odd" (defArgs s__law_odd) (defBody s__law_odd) (defScope s__law_odd) .none kV__law_odd dc__law_odd pm__law_odd an__law_odd cd__law_odd ct__law_odd), sl__law_odd⟩)
    (c__law_odd : PySem.W.codeIn K cd__law_odd "_law_odd" = true)
    (k__law_odd : PySem.W.keepIn K (.ref f__law_odd) = true)
    (g__law_pair_right : PySem.W.nsIn K mainGlobals "_law_pair_right" = some (some (.ref f__law_pair_right)))
    (l__law_pair_right : K.lookup f__law_pair_right = some ⟨oc__law_pair_right, od__law_pair_right, .func (PySem.W.fnOf "_law_pair_right" "_law_pair_right" (defArgs s__law_pair_right) (defBody s__law_pair_right) (defScope s__law_pair_right) .none kV__law_pair_right dc__law_pair_right pm__law_pair_right an__law_pair_right cd__law_pair_right ct__law_pair_right), sl__law_pair_right⟩)
    (c__law_pair_right : PySem.W.codeIn K cd__law_pair_right "_law_pair_right" = true)
    (k__law_pair_right : PySem.W.keepIn K (.ref f__law_pair_right) = true)
    (g__law_whole_right : PySem.W.nsIn K mainGlobals "_law_whole_right" = some (some (.ref f__law_whole_right)))
    (l__law_whole_right : K.lookup f__law_whole_right = some ⟨oc__law_whole_right, od__law_whole_right, .func (PySem.W.fnOf "_law_whole_right" "_law_whole_right" (defArgs s__law_whole_right) (defBody s__law_whole_right) (defScope s__law_whole_right) .none kV__law_whole_right dc__law_whole_right pm__law_whole_right an__law_whole_right cd__law_whole_right ct__law_whole_right), sl__law_whole_right⟩)
    (c__law_whole_right : PySem.W.codeIn K cd__law_whole_right "_law_whole_right" = true)
    (k__law_whole_right : PySem.W.keepIn K (.ref f__law_whole_right) = true)
    (g_written : PySem.W.nsIn K mainGlobals "written" = some (some (.ref f_written)))
    (l_written : K.lookup f_written = some ⟨oc_written, od_written, .func (PySem.W.fnOf "written" "written" (defArgs s_written) (defBody s_written) (defScope s_written) .none kV_written dc_written pm_written an_written cd_written ct_written), sl_written⟩)
    (c_written : PySem.W.codeIn K cd_written "written" = true)
    (k_written : PySem.W.keepIn K (.ref f_written) = true)
    (g_Ratio___repr__ : PySem.W.findIn K (.ref C_Ratio) "__repr__" = some (some (.ref f_Ratio___repr__)))
    (l_Ratio___repr__ : K.lookup f_Ratio___repr__ = some ⟨oc_Ratio___repr__, od_Ratio___repr__, .func (PySem.W.fnOf "__repr__" "Ratio.__repr__" (defArgs s_Ratio___repr__) (defBody s_Ratio___repr__) (defScope s_Ratio___repr__) .none kV_Ratio___repr__ dc_Ratio___repr__ pm_Ratio___repr__ an_Ratio___repr__ cd_Ratio___repr__ ct_Ratio___repr__), sl_Ratio___repr__⟩)
    (c_Ratio___repr__ : PySem.W.codeIn K cd_Ratio___repr__ "Ratio.__repr__" = true)
    (k_Ratio___repr__ : PySem.W.keepIn K (.ref f_Ratio___repr__) = true)
    (g__law_right : PySem.W.nsIn K mainGlobals "_law_right" = some (some (.ref f__law_right)))
    (l__law_right : K.lookup f__law_right = some ⟨oc__law_right, od__law_right, .func (PySem.W.fnOf "_law_right" "_law_right" (defArgs s__law_right) (defBody s__law_right) (defScope s__law_right) .none kV__law_right dc__law_right pm__law_right an__law_right (.ref cA__law_right) ct__law_right), sl__law_right⟩)
    (c__law_right : PySem.W.codeIn K (.ref cA__law_right) "_law_right" = true)
    (k__law_right : PySem.W.keepIn K (.ref f__law_right) = true)
    (o__law_right : K.lookup cA__law_right = some ⟨eC__law_right, dC__law_right, .fields vC__law_right, sC__law_right⟩)
    (v__law_right : vC__law_right[11]? = some (.ref Pt__law_right))
    (t__law_right : K.lookup Pt__law_right = none)
    (g_law : PySem.W.nsIn K mainGlobals "law" = some (some (.ref f_law)))
    (l_law : K.lookup f_law = some ⟨oc_law, od_law, .func (PySem.W.fnOf "law" "law" (defArgs s_law) (defBody s_law) (defScope s_law) .none kV_law dc_law pm_law an_law cd_law ct_law), sl_law⟩)
    (c_law : PySem.W.codeIn K cd_law "law" = true)
    (k_law : PySem.W.keepIn K (.ref f_law) = true)
    (ri1 : PySem.W.findIn K (.ref C_Ratio) "__class__" = some (some (.builtin "object.__class__")))
    (ri4 : PySem.W.mroIn K C_Ratio (.type "object") = some true)
    (ri5 : PySem.W.kitOne K (.ref C_Ratio) (.type "int") = some false)
    (ri6 : PySem.W.kitOne K (.ref C_Ratio) (.type "bool") = some false)
    (ri7 : PySem.W.kitOne K (.ref C_Ratio) (.ref C_Ratio) = some true)
    (ri8 : (["int", "bool", "NoneType", "str", "tuple", "list", "dict"] : List String).all (fun t => decide (PySem.W.kitOne K (.type t) (.ref C_Ratio) = some false)) = true)
    (cl1 : PySem.W.plainGet K C_Ratio Str.empty = true)
    (cl2 : PySem.W.hasDictIn K C_Ratio = true)
    (cl3 : PySem.W.plainOver K C_Ratio = true)
    (cl4 : PySem.W.findIn K (.ref C_Ratio) "__setattr__" = some (some (.builtin "object.__setattr__")))
    (mk1 : PySem.W.makesIn K C_Ratio = true)
    (mk2 : PySem.W.keepIn K (.ref C_Ratio) = true)
    (mk3 : PySem.W.isFn K (.ref f_Ratio___init__) = true)
    (nN : PySem.W.findIn K (.ref C_Ratio) "number" = some none)
    (nU : PySem.W.findIn K (.ref C_Ratio) "under" = some none)
    (o_add : opcB K C_Ratio f_Ratio___add__ f_Ratio___radd__ "add" = true)
    (o_sub : opcB K C_Ratio f_Ratio___sub__ f_Ratio___rsub__ "sub" = true)
    (o_mul : opcB K C_Ratio f_Ratio___mul__ f_Ratio___rmul__ "mul" = true)
    (c_lt : cmpcB K C_Ratio f_Ratio___lt__ f_Ratio___gt__ .Lt = true)
    (c_le : cmpcB K C_Ratio f_Ratio___le__ f_Ratio___ge__ .LtE = true)
    (c_gt : cmpcB K C_Ratio f_Ratio___gt__ f_Ratio___lt__ .Gt = true)
    (c_ge : cmpcB K C_Ratio f_Ratio___ge__ f_Ratio___le__ .GtE = true)
    (fn___neg__ : PySem.W.isFn K (.ref f_Ratio___neg__) = true)
    (fn___abs__ : PySem.W.isFn K (.ref f_Ratio___abs__) = true)
    (fn___repr__ : PySem.W.isFn K (.ref f_Ratio___repr__) = true)
    (fn_divided : PySem.W.isFn K (.ref f_Ratio_divided) = true)
    (xB : PySem.W.exmOne K (.ref C_BadRatio) (.ref C_AboutError) = some true)
    (tB : PySem.W.kitOne K (.ref C_BadRatio) (.ref C_BadRatio) = some true) :
    LawT P w K 9 63 "_law_script" mg fa h := by
  have e := hfa.symm.trans (PySem.W.mg_of X G g_law)
  cases e
  let a : Ad := ⟨f_init, C_AboutError, C_BadRatio, C_Ratio, f__law_pot, f__law_take, f__law_of, f__law_places, f__law_told, f__law_is_int, f__law_odd, f__law_common, f__law_pair, f__law_pair_of, f__law_drawn, f__law_sum, f__law_product, f__law_order, f__law_pair_right, f__law_whole_right, f__law_right, fa, f_is_integer, f_is_number, f_as_ratio, f_difference, f_written, f_Ratio___init__, f_Ratio_divided, f_Ratio___add__, f_Ratio___radd__, f_Ratio___sub__, f_Ratio___rsub__, f_Ratio___mul__, f_Ratio___rmul__, f_Ratio___neg__, f_Ratio___abs__, f_Ratio___lt__, f_Ratio___le__, f_Ratio___gt__, f_Ratio___ge__, f_Ratio___repr__⟩
  have eb1 : ∀ C ∈ [C_AboutError, C_BadRatio], ecB K f_init C = true := List.all_eq_true.mp eb
  have e_AboutError := ecB_ok (eb1 C_AboutError (by simp)) ⟨_, _, _, _, _, _, _, _, _, _, _, _, _, _, _, x_AboutError, by rfl⟩
  have e_BadRatio := ecB_ok (eb1 C_BadRatio (by simp)) ⟨_, _, _, _, _, _, _, _, _, _, _, _, _, _, _, x_BadRatio, by rfl⟩
  have T : Txt K mg a := {
    n_abs := PySem.W.mg_none_of X G n_abs
    n_all := PySem.W.mg_none_of X G n_all
    n_bool := PySem.W.mg_none_of X G n_bool
    n_int := PySem.W.mg_none_of X G n_int
    n_isinstance := PySem.W.mg_none_of X G n_isinstance
    n_len := PySem.W.mg_none_of X G n_len
    n_list := PySem.W.mg_none_of X G n_list
    n_max := PySem.W.mg_none_of X G n_max
    n_min := PySem.W.mg_none_of X G n_min
    n_range := PySem.W.mg_none_of X G n_range
    n_repr := PySem.W.mg_none_of X G n_repr
    n_divmod := PySem.W.mg_none_of X G n_divmod
    n_str := PySem.W.mg_none_of X G n_str
    g_is_integer := PySem.W.mg_of X G g_is_integer
    k_is_integer := k_is_integer
    g_is_number := PySem.W.mg_of X G g_is_number
    k_is_number := k_is_number
    g_as_ratio := PySem.W.mg_of X G g_as_ratio
    k_as_ratio := k_as_ratio
    g_difference := PySem.W.mg_of X G g_difference
    k_difference := k_difference
    g__law_pot := PySem.W.mg_of X G g__law_pot
    k__law_pot := k__law_pot
    g__law_take := PySem.W.mg_of X G g__law_take
    k__law_take := k__law_take
    g__law_of := PySem.W.mg_of X G g__law_of
    k__law_of := k__law_of
    g__law_places := PySem.W.mg_of X G g__law_places
    k__law_places := k__law_places
    g__law_is_int := PySem.W.mg_of X G g__law_is_int
    k__law_is_int := k__law_is_int
    g__law_common := PySem.W.mg_of X G g__law_common
    k__law_common := k__law_common
    g__law_pair := PySem.W.mg_of X G g__law_pair
    k__law_pair := k__law_pair
    g__law_pair_of := PySem.W.mg_of X G g__law_pair_of
    k__law_pair_of := k__law_pair_of
    g__law_sum := PySem.W.mg_of X G g__law_sum
    k__law_sum := k__law_sum
    g__law_product := PySem.W.mg_of X G g__law_product
    k__law_product := k__law_product
    g__law_order := PySem.W.mg_of X G g__law_order
    k__law_order := k__law_order
    g__law_drawn := PySem.W.mg_of X G g__law_drawn
    k__law_drawn := k__law_drawn
    g__law_odd := PySem.W.mg_of X G g__law_odd
    k__law_odd := k__law_odd
    g__law_pair_right := PySem.W.mg_of X G g__law_pair_right
    k__law_pair_right := k__law_pair_right
    g__law_whole_right := PySem.W.mg_of X G g__law_whole_right
    k__law_whole_right := k__law_whole_right
    g_written := PySem.W.mg_of X G g_written
    k_written := k_written
    g__law_right := PySem.W.mg_of X G g__law_right
    k__law_right := k__law_right
    g_law := PySem.W.mg_of X G g_law
    k_law := k_law
    g_AboutError := PySem.W.mg_of X G g_AboutError
    g_BadRatio := PySem.W.mg_of X G g_BadRatio
    c_BadRatio := e_BadRatio.1
    i_BadRatio := e_BadRatio.2
    tI := tI
    ek := ⟨sp, tk⟩
    x_BadRatio := xB
    t_BadRatio := tB
    dv := ⟨g_Ratio_divided, fn_divided, k_Ratio_divided⟩
    absA := g_Ratio___abs__
    absF := fn___abs__
    reprA := g_Ratio___repr__
    reprF := fn___repr__
    g_gcd := PySem.W.mg_of X G gG
    g_PART := ⟨tP, PySem.W.mg_of X G gP⟩
    g_Ratio := PySem.W.mg_of X G g_Ratio
    m_Ratio := ⟨mk1, g_Ratio___init__, mk3, mk2⟩
    cl := ⟨cl1, cl2, cl3, cl4⟩
    nN := nN
    nU := nU
    ri := ⟨ri1, sp, tk, ri4, ri5, ri6, ri7, fun t ht => of_decide_eq_true (List.all_eq_true.mp ri8 t ht)⟩
    o_add := opcB_ok o_add
    o_sub := opcB_ok o_sub
    o_mul := opcB_ok o_mul
    c_lt := cmpcB_ok c_lt
    c_le := cmpcB_ok c_le
    c_gt := cmpcB_ok c_gt
    c_ge := cmpcB_ok c_ge
    neg := g_Ratio___neg__
    negF := fn___neg__
    g__law_told := PySem.W.mg_of X G g__law_told
    k__law_told := k__law_told
  }
  have F_init := fun_mk (st := s_init) l_init c_init k_init
  have b_init := F_init.binds (ps := ["self", "value"]) fun _ _ _ _ _ _ us hl => match us, hl with | [_, _], _ => rfl
  have F__law_told := fun_mk (st := s__law_told) l__law_told c__law_told k__law_told
  have b__law_told := F__law_told.binds (ps := ["_law_ask"]) fun _ _ _ _ _ _ us hl => match us, hl with | [_], _ => rfl
  have F_is_integer := fun_mk (st := s_is_integer) l_is_integer c_is_integer k_is_integer
  have b_is_integer := F_is_integer.binds (ps := ["value"]) fun _ _ _ _ _ _ us hl => match us, hl with | [_], _ => rfl
  have F_is_number := fun_mk (st := s_is_number) l_is_number c_is_number k_is_number
  have b_is_number := F_is_number.binds (ps := ["value"]) fun _ _ _ _ _ _ us hl => match us, hl with | [_], _ => rfl
  have F_Ratio___init__ : FunD K "__init__" "Ratio.__init__" (defArgs s_Ratio___init__) (defBody s_Ratio___init__) (defScope s_Ratio___init__) [.int 1] [] f_Ratio___init__ _ := ⟨⟨_, _, _, _, _, _, _, _, _, _, rfl, l_Ratio___init__, c_Ratio___init__, .inr ⟨by simp, _, _, _, _, rfl, d_Ratio___init__, rfl, r_Ratio___init__⟩, .inl rfl⟩, k_Ratio___init__⟩
  have d_Ratio___init__ := F_Ratio___init__.binds1 (ps := ["self", "number", "under"]) 2 0 (by simp) (by rfl) fun T kV doc pm an cdv ct us its hu hi => match us, its, hu, hi with | [_, _], [_], _, _ => ⟨_, rfl, rfl⟩
  obtain ⟨ds_Ratio___init__, d_Ratio___init__⟩ := d_Ratio___init__
  have b_Ratio___init__ := F_Ratio___init__.binds1 (ps := ["self", "number", "under"]) 3 1 (by simp) (by rfl) fun T kV doc pm an cdv ct us its hu hi => match us, its, hu, hi with | [_, _, _], [_], _, _ => ⟨_, rfl, rfl⟩
  obtain ⟨es_Ratio___init__, v_Ratio___init__, b_Ratio___init__⟩ := b_Ratio___init__
  cases v_Ratio___init__
  have F_as_ratio := fun_mk (st := s_as_ratio) l_as_ratio c_as_ratio k_as_ratio
  have b_as_ratio := F_as_ratio.binds (ps := ["number"]) fun _ _ _ _ _ _ us hl => match us, hl with | [_], _ => rfl
  have F_difference := fun_mk (st := s_difference) l_difference c_difference k_difference
  have b_difference := F_difference.binds (ps := ["one", "other"]) fun _ _ _ _ _ _ us hl => match us, hl with | [_, _], _ => rfl
  have F_Ratio___add__ := fun_mk (st := s_Ratio___add__) l_Ratio___add__ c_Ratio___add__ k_Ratio___add__
  have b_Ratio___add__ := F_Ratio___add__.binds (ps := ["self", "other"]) fun _ _ _ _ _ _ us hl => match us, hl with | [_, _], _ => rfl
  have F_Ratio___radd__ := fun_mk (st := s_Ratio___radd__) l_Ratio___radd__ c_Ratio___radd__ k_Ratio___radd__
  have b_Ratio___radd__ := F_Ratio___radd__.binds (ps := ["self", "other"]) fun _ _ _ _ _ _ us hl => match us, hl with | [_, _], _ => rfl
  have F_Ratio___sub__ := fun_mk (st := s_Ratio___sub__) l_Ratio___sub__ c_Ratio___sub__ k_Ratio___sub__
  have b_Ratio___sub__ := F_Ratio___sub__.binds (ps := ["self", "other"]) fun _ _ _ _ _ _ us hl => match us, hl with | [_, _], _ => rfl
  have F_Ratio___rsub__ := fun_mk (st := s_Ratio___rsub__) l_Ratio___rsub__ c_Ratio___rsub__ k_Ratio___rsub__
  have b_Ratio___rsub__ := F_Ratio___rsub__.binds (ps := ["self", "other"]) fun _ _ _ _ _ _ us hl => match us, hl with | [_, _], _ => rfl
  have F_Ratio___mul__ := fun_mk (st := s_Ratio___mul__) l_Ratio___mul__ c_Ratio___mul__ k_Ratio___mul__
  have b_Ratio___mul__ := F_Ratio___mul__.binds (ps := ["self", "other"]) fun _ _ _ _ _ _ us hl => match us, hl with | [_, _], _ => rfl
  have F_Ratio___rmul__ := fun_mk (st := s_Ratio___rmul__) l_Ratio___rmul__ c_Ratio___rmul__ k_Ratio___rmul__
  have b_Ratio___rmul__ := F_Ratio___rmul__.binds (ps := ["self", "other"]) fun _ _ _ _ _ _ us hl => match us, hl with | [_, _], _ => rfl
  have F_Ratio___neg__ := fun_mk (st := s_Ratio___neg__) l_Ratio___neg__ c_Ratio___neg__ k_Ratio___neg__
  have b_Ratio___neg__ := F_Ratio___neg__.binds (ps := ["self"]) fun _ _ _ _ _ _ us hl => match us, hl with | [_], _ => rfl
  have F_Ratio___abs__ := fun_mk (st := s_Ratio___abs__) l_Ratio___abs__ c_Ratio___abs__ k_Ratio___abs__
  have b_Ratio___abs__ := F_Ratio___abs__.binds (ps := ["self"]) fun _ _ _ _ _ _ us hl => match us, hl with | [_], _ => rfl
  have F_Ratio___lt__ := fun_mk (st := s_Ratio___lt__) l_Ratio___lt__ c_Ratio___lt__ k_Ratio___lt__
  have b_Ratio___lt__ := F_Ratio___lt__.binds (ps := ["self", "other"]) fun _ _ _ _ _ _ us hl => match us, hl with | [_, _], _ => rfl
  have F_Ratio___le__ := fun_mk (st := s_Ratio___le__) l_Ratio___le__ c_Ratio___le__ k_Ratio___le__
  have b_Ratio___le__ := F_Ratio___le__.binds (ps := ["self", "other"]) fun _ _ _ _ _ _ us hl => match us, hl with | [_, _], _ => rfl
  have F_Ratio___gt__ := fun_mk (st := s_Ratio___gt__) l_Ratio___gt__ c_Ratio___gt__ k_Ratio___gt__
  have b_Ratio___gt__ := F_Ratio___gt__.binds (ps := ["self", "other"]) fun _ _ _ _ _ _ us hl => match us, hl with | [_, _], _ => rfl
  have F_Ratio___ge__ := fun_mk (st := s_Ratio___ge__) l_Ratio___ge__ c_Ratio___ge__ k_Ratio___ge__
  have b_Ratio___ge__ := F_Ratio___ge__.binds (ps := ["self", "other"]) fun _ _ _ _ _ _ us hl => match us, hl with | [_, _], _ => rfl
  have F_Ratio_divided := fun_mk (st := s_Ratio_divided) l_Ratio_divided c_Ratio_divided k_Ratio_divided
  have b_Ratio_divided := F_Ratio_divided.binds (ps := ["self", "other"]) fun _ _ _ _ _ _ us hl => match us, hl with | [_, _], _ => rfl
  have F__law_pot := fun_mk (st := s__law_pot) l__law_pot c__law_pot k__law_pot
  have b__law_pot := F__law_pot.binds (ps := ["_law_script", "_law_k"]) fun _ _ _ _ _ _ us hl => match us, hl with | [_, _], _ => rfl
  have F__law_take := fun_mk (st := s__law_take) l__law_take c__law_take k__law_take
  have b__law_take := F__law_take.binds (ps := ["_law_pot_here", "_law_upto"]) fun _ _ _ _ _ _ us hl => match us, hl with | [_, _], _ => rfl
  have F__law_of := fun_mk (st := s__law_of) l__law_of c__law_of k__law_of
  have b__law_of := F__law_of.binds (ps := ["_law_pot_here", "_law_some"]) fun _ _ _ _ _ _ us hl => match us, hl with | [_, _], _ => rfl
  have F__law_places := fun_mk (st := s__law_places) l__law_places c__law_places k__law_places
  have b__law_places := F__law_places.binds (ps := ["_law_script", "_law_most"]) fun _ _ _ _ _ _ us hl => match us, hl with | [_, _], _ => rfl
  have F__law_is_int := fun_mk (st := s__law_is_int) l__law_is_int c__law_is_int k__law_is_int
  have b__law_is_int := F__law_is_int.binds (ps := ["_law_value", "_law_low", "_law_high"]) fun _ _ _ _ _ _ us hl => match us, hl with | [_, _, _], _ => rfl
  have F__law_common := fun_mk (st := s__law_common) l__law_common c__law_common k__law_common
  have b__law_common := F__law_common.binds (ps := ["_law_one", "_law_other"]) fun _ _ _ _ _ _ us hl => match us, hl with | [_, _], _ => rfl
  have F__law_pair := fun_mk (st := s__law_pair) l__law_pair c__law_pair k__law_pair
  have b__law_pair := F__law_pair.binds (ps := ["_law_above", "_law_under"]) fun _ _ _ _ _ _ us hl => match us, hl with | [_, _], _ => rfl
  have F__law_pair_of := fun_mk (st := s__law_pair_of) l__law_pair_of c__law_pair_of k__law_pair_of
  have b__law_pair_of := F__law_pair_of.binds (ps := ["_law_made"]) fun _ _ _ _ _ _ us hl => match us, hl with | [_], _ => rfl
  have F__law_sum := fun_mk (st := s__law_sum) l__law_sum c__law_sum k__law_sum
  have b__law_sum := F__law_sum.binds (ps := ["_law_one", "_law_other", "_law_sign"]) fun _ _ _ _ _ _ us hl => match us, hl with | [_, _, _], _ => rfl
  have F__law_product := fun_mk (st := s__law_product) l__law_product c__law_product k__law_product
  have b__law_product := F__law_product.binds (ps := ["_law_one", "_law_other"]) fun _ _ _ _ _ _ us hl => match us, hl with | [_, _], _ => rfl
  have F__law_order := fun_mk (st := s__law_order) l__law_order c__law_order k__law_order
  have b__law_order := F__law_order.binds (ps := ["_law_one", "_law_other"]) fun _ _ _ _ _ _ us hl => match us, hl with | [_, _], _ => rfl
  have F__law_drawn := fun_mk (st := s__law_drawn) l__law_drawn c__law_drawn k__law_drawn
  have b__law_drawn := F__law_drawn.binds (ps := ["_law_pot_here"]) fun _ _ _ _ _ _ us hl => match us, hl with | [_], _ => rfl
  have F__law_odd := fun_mk (st := s__law_odd) l__law_odd c__law_odd k__law_odd
  have b__law_odd := F__law_odd.binds (ps := ["_law_pot_here"]) fun _ _ _ _ _ _ us hl => match us, hl with | [_], _ => rfl
  have F__law_pair_right := fun_mk (st := s__law_pair_right) l__law_pair_right c__law_pair_right k__law_pair_right
  have b__law_pair_right := F__law_pair_right.binds (ps := ["_law_one", "_law_other"]) fun _ _ _ _ _ _ us hl => match us, hl with | [_, _], _ => rfl
  have F__law_whole_right := fun_mk (st := s__law_whole_right) l__law_whole_right c__law_whole_right k__law_whole_right
  have b__law_whole_right := F__law_whole_right.binds (ps := ["_law_one", "_law_many"]) fun _ _ _ _ _ _ us hl => match us, hl with | [_, _], _ => rfl
  have F_written := fun_mk (st := s_written) l_written c_written k_written
  have b_written := F_written.binds (ps := ["integer"]) fun _ _ _ _ _ _ us hl => match us, hl with | [_], _ => rfl
  have F_Ratio___repr__ := fun_mk (st := s_Ratio___repr__) l_Ratio___repr__ c_Ratio___repr__ k_Ratio___repr__
  have b_Ratio___repr__ := F_Ratio___repr__.binds (ps := ["self"]) fun _ _ _ _ _ _ us hl => match us, hl with | [_], _ => rfl
  have F__law_right := fun_mk (st := s__law_right) l__law_right c__law_right k__law_right
  have b__law_right := F__law_right.binds (ps := ["_law_pot_here"]) fun _ _ _ _ _ _ us hl => match us, hl with | [_], _ => rfl
  have F_law := fun_mk (st := s_law) l_law c_law k_law
  have b_law := F_law.binds (ps := ["_law_script"]) fun _ _ _ _ _ _ us hl => match us, hl with | [_], _ => rfl
  obtain ⟨xf__law_right, xo, xd, c_cd__law_right, xt__law_right, y1, y2, y3, y4, y5__law_right, y6__law_right⟩ := bare__law_right
  rw [PySem.W.mg_of X G g__law_right] at y1
  cases y1
  rw [X _ _ l__law_right] at y2
  cases y2
  cases y3
  cases y4
  have same__law_right : Pt__law_right = xt__law_right := by
    obtain ⟨ob, us, _, _, _, _, _, _, _, z1, _, z3, z4, _⟩ := id y5__law_right
    rw [X _ _ o__law_right] at z1
    cases z1
    cases z3
    rw [v__law_right] at z4
    injection z4 with z5
    injection z5
  rw [← same__law_right] at y5__law_right y6__law_right
  refine ⟨PySem.W.fnOf "law" "law" (defArgs s_law) (defBody s_law) (defScope s_law) .none kV_law dc_law pm_law an_law cd_law ct_law, [(cA__law_right, Pt__law_right)], spLaw K Pt__law_right, ?facts, fun s v => .of_eq rfl, ?told, fun base hK hG TB => ?fn⟩
  case facts =>
    intro p hp
    simp only [List.mem_cons, List.not_mem_nil, or_false] at hp
    rcases hp with rfl
    · exact ⟨y6__law_right, t__law_right, y5__law_right⟩
  case told =>
    intro H b ns hl hT hS
    exact ⟨b, ns, rfl, hS, hl, fun p hp => by rw [List.mem_singleton.mp hp]; exact TabS.nil (hT (cA__law_right, Pt__law_right) (by simp)), fun _ => rfl⟩
  case fn =>
    have G_init : FnOk P w K mg base CX0 1 f_init _ ["self", "value"] (spErrInit K) := ok_init F_init
    have G_is_integer := ok_is_integer (P := P) (w := w) (base := base) (a := a) F_is_integer T
    have G_is_number := ok_is_number (P := P) (w := w) (base := base) (a := a) F_is_number T G_is_integer b_is_integer
    have G_Ratio___init__ := ok_Ratio___init__ (P := P) (w := w) (base := base) (a := a) F_Ratio___init__ T G_is_integer b_is_integer
    have G_as_ratio := ok_as_ratio (P := P) (w := w) (base := base) (a := a) F_as_ratio T G_Ratio___init__ b_Ratio___init__ d_Ratio___init__
    have G_difference := ok_difference (P := P) (w := w) (base := base) (a := a) F_difference T
    have G_Ratio___add__ := ok_Ratio___add__ (P := P) (w := w) (base := base) (a := a) F_Ratio___add__ T G_Ratio___init__ b_Ratio___init__ d_Ratio___init__ G_as_ratio b_as_ratio G_is_number b_is_number
    have G_Ratio___radd__ := ok_Ratio___radd__ (P := P) (w := w) (base := base) (a := a) F_Ratio___radd__ T G_Ratio___add__ b_Ratio___add__ G_as_ratio b_as_ratio G_is_number b_is_number
    have G_Ratio___sub__ := ok_Ratio___sub__ (P := P) (w := w) (base := base) (a := a) F_Ratio___sub__ T G_Ratio___init__ b_Ratio___init__ d_Ratio___init__ G_difference b_difference G_as_ratio b_as_ratio G_is_number b_is_number
    have G_Ratio___rsub__ := ok_Ratio___rsub__ (P := P) (w := w) (base := base) (a := a) F_Ratio___rsub__ T G_Ratio___sub__ b_Ratio___sub__ G_as_ratio b_as_ratio G_is_number b_is_number
    have G_Ratio___mul__ := ok_Ratio___mul__ (P := P) (w := w) (base := base) (a := a) F_Ratio___mul__ T G_Ratio___init__ b_Ratio___init__ d_Ratio___init__ G_as_ratio b_as_ratio G_is_number b_is_number
    have G_Ratio___rmul__ := ok_Ratio___rmul__ (P := P) (w := w) (base := base) (a := a) F_Ratio___rmul__ T G_Ratio___mul__ b_Ratio___mul__ G_as_ratio b_as_ratio G_is_number b_is_number
    have G_Ratio___neg__ := ok_Ratio___neg__ (P := P) (w := w) (base := base) (a := a) F_Ratio___neg__ T G_Ratio___init__ b_Ratio___init__ d_Ratio___init__
    have G_Ratio___abs__ := ok_Ratio___abs__ (P := P) (w := w) (base := base) (a := a) F_Ratio___abs__ T G_Ratio___init__ b_Ratio___init__ d_Ratio___init__
    have G_Ratio___lt__ := ok_Ratio___lt__ (P := P) (w := w) (base := base) (a := a) F_Ratio___lt__ T G_difference b_difference G_as_ratio b_as_ratio G_is_number b_is_number
    have G_Ratio___le__ := ok_Ratio___le__ (P := P) (w := w) (base := base) (a := a) F_Ratio___le__ T G_difference b_difference G_as_ratio b_as_ratio G_is_number b_is_number
    have G_Ratio___gt__ := ok_Ratio___gt__ (P := P) (w := w) (base := base) (a := a) F_Ratio___gt__ T G_difference b_difference G_as_ratio b_as_ratio G_is_number b_is_number
    have G_Ratio___ge__ := ok_Ratio___ge__ (P := P) (w := w) (base := base) (a := a) F_Ratio___ge__ T G_difference b_difference G_as_ratio b_as_ratio G_is_number b_is_number
    have G_Ratio_divided := ok_Ratio_divided (P := P) (w := w) (base := base) (a := a) F_Ratio_divided T G_Ratio___init__ b_Ratio___init__ d_Ratio___init__ G_as_ratio b_as_ratio G_is_number b_is_number G_init b_init
    have G__law_pot := ok__law_pot (P := P) (w := w) (base := base) (a := a) F__law_pot T
    have G__law_take := ok__law_take (P := P) (w := w) (base := base) (a := a) F__law_take T
    have G__law_of := ok__law_of (P := P) (w := w) (base := base) (a := a) F__law_of T G__law_take b__law_take
    have G__law_places := ok__law_places (P := P) (w := w) (base := base) (a := a) F__law_places T
    have G__law_is_int := ok__law_is_int (P := P) (w := w) (base := base) (a := a) F__law_is_int T
    have G__law_common := ok__law_common (P := P) (w := w) (base := base) (a := a) F__law_common T
    have G__law_pair := ok__law_pair (P := P) (w := w) (base := base) (a := a) F__law_pair T G__law_common b__law_common
    have G__law_pair_of := ok__law_pair_of (P := P) (w := w) (base := base) (a := a) F__law_pair_of T
    have G__law_sum := ok__law_sum (P := P) (w := w) (base := base) (a := a) F__law_sum T G__law_pair b__law_pair
    have G__law_product := ok__law_product (P := P) (w := w) (base := base) (a := a) F__law_product T G__law_pair b__law_pair
    have G__law_order := ok__law_order (P := P) (w := w) (base := base) (a := a) F__law_order T
    have G__law_drawn := ok__law_drawn (P := P) (w := w) (base := base) (a := a) F__law_drawn T G__law_pair b__law_pair G__law_of b__law_of G__law_take b__law_take
    have G__law_odd := ok__law_odd (P := P) (w := w) (base := base) (a := a) F__law_odd T G__law_of b__law_of
    have G__law_pair_right := ok__law_pair_right (P := P) (w := w) (base := base) (a := a) F__law_pair_right T G__law_pair_of b__law_pair_of G_Ratio___ge__ b_Ratio___ge__ G_Ratio___gt__ b_Ratio___gt__ G_Ratio___le__ b_Ratio___le__ G_Ratio___lt__ b_Ratio___lt__ G__law_order b__law_order G__law_pair b__law_pair G_Ratio_divided b_Ratio_divided G_Ratio___abs__ b_Ratio___abs__ G_Ratio___neg__ b_Ratio___neg__ G__law_product b__law_product G_Ratio___mul__ b_Ratio___mul__ G__law_sum b__law_sum G_Ratio___sub__ b_Ratio___sub__ G_Ratio___add__ b_Ratio___add__ G_Ratio___init__ b_Ratio___init__ d_Ratio___init__
    have G__law_whole_right := ok__law_whole_right (P := P) (w := w) (base := base) (a := a) F__law_whole_right T G_Ratio___le__ b_Ratio___le__ G_Ratio___lt__ b_Ratio___lt__ G_Ratio___ge__ b_Ratio___ge__ G_Ratio___gt__ b_Ratio___gt__ G__law_order b__law_order G__law_pair_of b__law_pair_of G__law_pair b__law_pair G_Ratio_divided b_Ratio_divided G__law_product b__law_product G_Ratio___rmul__ b_Ratio___rmul__ G_Ratio___mul__ b_Ratio___mul__ G__law_sum b__law_sum G_Ratio___rsub__ b_Ratio___rsub__ G_Ratio___sub__ b_Ratio___sub__ G_Ratio___radd__ b_Ratio___radd__ G_Ratio___add__ b_Ratio___add__ G_Ratio___init__ b_Ratio___init__ d_Ratio___init__
    have G_written := ok_written (P := P) (w := w) (base := base) (a := a) F_written T
    have G_Ratio___repr__ := ok_Ratio___repr__ (P := P) (w := w) (base := base) (a := a) F_Ratio___repr__ T G_written b_written
    have G__law_right := ok_right (P := P) (w := w) (base := base) (a := a) T l__law_right c__law_right (TB (cA__law_right, Pt__law_right) (by simp)) l__law_told c__law_told b__law_told G__law_odd b__law_odd G_Ratio___init__ b_Ratio___init__ d_Ratio___init__ G__law_is_int b__law_is_int G_Ratio___repr__ b_Ratio___repr__ G_Ratio_divided b_Ratio_divided G__law_whole_right b__law_whole_right G__law_pair_right b__law_pair_right G__law_of b__law_of G__law_drawn b__law_drawn
    exact ok_law (a := a) (Pt := Pt__law_right) F_law T G__law_places b__law_places G__law_right b__law_right G__law_pot b__law_pot
end My

open PySem PySem.W PyProof.Rows
local macro_rules | `(tactic| walk_at "k_none") => `(tactic| first | kernel_rfl | rfl | decide +kernel)
set_option maxRecDepth 100000 in
set_option maxHeartbeats 0 in
theorem PySem.Challenge.cw_seenabout_k02_ratios_reckoned_holds : PySem.Challenge.rw_seenabout_k02_ratios_reckoned.Holds := by
  w_on; o_law; k_head; (case hw => w_witness2)
  k_fill
  refine G.walkOfT (l := PySem.Challenge.rw_seenabout_k02_ratios_reckoned) (n := 63) (k := 9) (x := "_law_script") (names := ["_law_right"]) rfl (by decide) rfl ⟨rfl, by decide, by decide⟩ (by rfl) (fun w h Y => PySem.W.km_in_of Y) ?F
  case F =>
    intro w mg fa h KX G hmg tabs
    refine' My.all_mk KX G hmg (tabs _ (by simp)) ?n_abs ?n_all ?n_bool ?n_int ?n_isinstance ?n_len ?n_list ?n_max ?n_min ?n_range ?n_repr ?n_divmod ?n_str ?gP ?gG ?g_AboutError ?g_BadRatio ?x_AboutError ?x_BadRatio ?i0 ?tI ?sp ?tk ?eb ?g_Ratio ?l_init ?c_init ?k_init ?g__law_told ?l__law_told ?c__law_told ?k__law_told ?g_is_integer ?l_is_integer ?c_is_integer ?k_is_integer ?g_is_number ?l_is_number ?c_is_number ?k_is_number ?g_Ratio___init__ ?l_Ratio___init__ ?c_Ratio___init__ ?k_Ratio___init__ ?d_Ratio___init__ ?r_Ratio___init__ ?g_as_ratio ?l_as_ratio ?c_as_ratio ?k_as_ratio ?g_difference ?l_difference ?c_difference ?k_difference ?g_Ratio___add__ ?l_Ratio___add__ ?c_Ratio___add__ ?k_Ratio___add__ ?g_Ratio___radd__ ?l_Ratio___radd__ ?c_Ratio___radd__ ?k_Ratio___radd__ ?g_Ratio___sub__ ?l_Ratio___sub__ ?c_Ratio___sub__ ?k_Ratio___sub__ ?g_Ratio___rsub__ ?l_Ratio___rsub__ ?c_Ratio___rsub__ ?k_Ratio___rsub__ ?g_Ratio___mul__ ?l_Ratio___mul__ ?c_Ratio___mul__ ?k_Ratio___mul__ ?g_Ratio___rmul__ ?l_Ratio___rmul__ ?c_Ratio___rmul__ ?k_Ratio___rmul__ ?g_Ratio___neg__ ?l_Ratio___neg__ ?c_Ratio___neg__ ?k_Ratio___neg__ ?g_Ratio___abs__ ?l_Ratio___abs__ ?c_Ratio___abs__ ?k_Ratio___abs__ ?g_Ratio___lt__ ?l_Ratio___lt__ ?c_Ratio___lt__ ?k_Ratio___lt__ ?g_Ratio___le__ ?l_Ratio___le__ ?c_Ratio___le__ ?k_Ratio___le__ ?g_Ratio___gt__ ?l_Ratio___gt__ ?c_Ratio___gt__ ?k_Ratio___gt__ ?g_Ratio___ge__ ?l_Ratio___ge__ ?c_Ratio___ge__ ?k_Ratio___ge__ ?g_Ratio_divided ?l_Ratio_divided ?c_Ratio_divided ?k_Ratio_divided ?g__law_pot ?l__law_pot ?c__law_pot ?k__law_pot ?g__law_take ?l__law_take ?c__law_take ?k__law_take ?g__law_of ?l__law_of ?c__law_of ?k__law_of ?g__law_places ?l__law_places ?c__law_places ?k__law_places ?g__law_is_int ?l__law_is_int ?c__law_is_int ?k__law_is_int ?g__law_common ?l__law_common ?c__law_common ?k__law_common ?g__law_pair ?l__law_pair ?c__law_pair ?k__law_pair ?g__law_pair_of ?l__law_pair_of ?c__law_pair_of ?k__law_pair_of ?g__law_sum ?l__law_sum ?c__law_sum ?k__law_sum ?g__law_product ?l__law_product ?c__law_product ?k__law_product ?g__law_order ?l__law_order ?c__law_order ?k__law_order ?g__law_drawn ?l__law_drawn ?c__law_drawn ?k__law_drawn ?g__law_odd ?l__law_odd ?c__law_odd ?k__law_odd ?g__law_pair_right ?l__law_pair_right ?c__law_pair_right ?k__law_pair_right ?g__law_whole_right ?l__law_whole_right ?c__law_whole_right ?k__law_whole_right ?g_written ?l_written ?c_written ?k_written ?g_Ratio___repr__ ?l_Ratio___repr__ ?c_Ratio___repr__ ?k_Ratio___repr__ ?g__law_right ?l__law_right ?c__law_right ?k__law_right ?o__law_right ?v__law_right ?t__law_right ?g_law ?l_law ?c_law ?k_law ?ri1 ?ri4 ?ri5 ?ri6 ?ri7 ?ri8 ?cl1 ?cl2 ?cl3 ?cl4 ?mk1 ?mk2 ?mk3 ?nN ?nU ?o_add ?o_sub ?o_mul ?c_lt ?c_le ?c_gt ?c_ge ?fn___neg__ ?fn___abs__ ?fn___repr__ ?fn_divided ?xB ?tB
    (case n_abs => k_is)
    (case n_all => k_is)
    (case n_bool => k_is)
    (case n_int => k_is)
    (case n_isinstance => k_is)
    (case n_len => k_is)
    (case n_list => k_is)
    (case n_max => k_is)
    (case n_min => k_is)
    (case n_range => k_is)
    (case n_repr => k_is)
    (case n_divmod => k_is)
    (case n_str => k_is)
    (case gP => k_is)
    (case gG => k_is)
    (case g_AboutError => k_is)
    (case g_BadRatio => k_is)
    (case x_AboutError => k_is)
    (case x_BadRatio => k_is)
    (case i0 => k_is)
    (case tI => k_is)
    (case sp => k_is)
    (case tk => k_is)
    (case eb => kernel_rfl)
    (case g_Ratio => k_is)
    (case l_init => k_is)
    (case c_init => k_is)
    (case k_init => k_is)
    (case g__law_told => k_is)
    (case l__law_told => k_is)
    (case c__law_told => k_is)
    (case k__law_told => k_is)
    (case g_is_integer => k_is)
    (case l_is_integer => k_is)
    (case c_is_integer => k_is)
    (case k_is_integer => k_is)
    (case g_is_number => k_is)
    (case l_is_number => k_is)
    (case c_is_number => k_is)
    (case k_is_number => k_is)
    (case g_Ratio___init__ => k_is)
    (case l_Ratio___init__ => k_is)
    (case c_Ratio___init__ => k_is)
    (case k_Ratio___init__ => k_is)
    (case d_Ratio___init__ => k_is)
    (case r_Ratio___init__ => first | exact .cons ⟨_, rfl⟩ .nil | exact .cons rfl .nil)
    (case g_as_ratio => k_is)
    (case l_as_ratio => k_is)
    (case c_as_ratio => k_is)
    (case k_as_ratio => k_is)
    (case g_difference => k_is)
    (case l_difference => k_is)
    (case c_difference => k_is)
    (case k_difference => k_is)
    (case g_Ratio___add__ => k_is)
    (case l_Ratio___add__ => k_is)
    (case c_Ratio___add__ => k_is)
    (case k_Ratio___add__ => k_is)
    (case g_Ratio___radd__ => k_is)
    (case l_Ratio___radd__ => k_is)
    (case c_Ratio___radd__ => k_is)
    (case k_Ratio___radd__ => k_is)
    (case g_Ratio___sub__ => k_is)
    (case l_Ratio___sub__ => k_is)
    (case c_Ratio___sub__ => k_is)
    (case k_Ratio___sub__ => k_is)
    (case g_Ratio___rsub__ => k_is)
    (case l_Ratio___rsub__ => k_is)
    (case c_Ratio___rsub__ => k_is)
    (case k_Ratio___rsub__ => k_is)
    (case g_Ratio___mul__ => k_is)
    (case l_Ratio___mul__ => k_is)
    (case c_Ratio___mul__ => k_is)
    (case k_Ratio___mul__ => k_is)
    (case g_Ratio___rmul__ => k_is)
    (case l_Ratio___rmul__ => k_is)
    (case c_Ratio___rmul__ => k_is)
    (case k_Ratio___rmul__ => k_is)
    (case g_Ratio___neg__ => k_is)
    (case l_Ratio___neg__ => k_is)
    (case c_Ratio___neg__ => k_is)
    (case k_Ratio___neg__ => k_is)
    (case g_Ratio___abs__ => k_is)
    (case l_Ratio___abs__ => k_is)
    (case c_Ratio___abs__ => k_is)
    (case k_Ratio___abs__ => k_is)
    (case g_Ratio___lt__ => k_is)
    (case l_Ratio___lt__ => k_is)
    (case c_Ratio___lt__ => k_is)
    (case k_Ratio___lt__ => k_is)
    (case g_Ratio___le__ => k_is)
    (case l_Ratio___le__ => k_is)
    (case c_Ratio___le__ => k_is)
    (case k_Ratio___le__ => k_is)
    (case g_Ratio___gt__ => k_is)
    (case l_Ratio___gt__ => k_is)
    (case c_Ratio___gt__ => k_is)
    (case k_Ratio___gt__ => k_is)
    (case g_Ratio___ge__ => k_is)
    (case l_Ratio___ge__ => k_is)
    (case c_Ratio___ge__ => k_is)
    (case k_Ratio___ge__ => k_is)
    (case g_Ratio_divided => k_is)
    (case l_Ratio_divided => k_is)
    (case c_Ratio_divided => k_is)
    (case k_Ratio_divided => k_is)
    (case g__law_pot => k_is)
    (case l__law_pot => k_is)
    (case c__law_pot => k_is)
    (case k__law_pot => k_is)
    (case g__law_take => k_is)
    (case l__law_take => k_is)
    (case c__law_take => k_is)
    (case k__law_take => k_is)
    (case g__law_of => k_is)
    (case l__law_of => k_is)
    (case c__law_of => k_is)
    (case k__law_of => k_is)
    (case g__law_places => k_is)
    (case l__law_places => k_is)
    (case c__law_places => k_is)
    (case k__law_places => k_is)
    (case g__law_is_int => k_is)
    (case l__law_is_int => k_is)
    (case c__law_is_int => k_is)
    (case k__law_is_int => k_is)
    (case g__law_common => k_is)
    (case l__law_common => k_is)
    (case c__law_common => k_is)
    (case k__law_common => k_is)
    (case g__law_pair => k_is)
    (case l__law_pair => k_is)
    (case c__law_pair => k_is)
    (case k__law_pair => k_is)
    (case g__law_pair_of => k_is)
    (case l__law_pair_of => k_is)
    (case c__law_pair_of => k_is)
    (case k__law_pair_of => k_is)
    (case g__law_sum => k_is)
    (case l__law_sum => k_is)
    (case c__law_sum => k_is)
    (case k__law_sum => k_is)
    (case g__law_product => k_is)
    (case l__law_product => k_is)
    (case c__law_product => k_is)
    (case k__law_product => k_is)
    (case g__law_order => k_is)
    (case l__law_order => k_is)
    (case c__law_order => k_is)
    (case k__law_order => k_is)
    (case g__law_drawn => k_is)
    (case l__law_drawn => k_is)
    (case c__law_drawn => k_is)
    (case k__law_drawn => k_is)
    (case g__law_odd => k_is)
    (case l__law_odd => k_is)
    (case c__law_odd => k_is)
    (case k__law_odd => k_is)
    (case g__law_pair_right => k_is)
    (case l__law_pair_right => k_is)
    (case c__law_pair_right => k_is)
    (case k__law_pair_right => k_is)
    (case g__law_whole_right => k_is)
    (case l__law_whole_right => k_is)
    (case c__law_whole_right => k_is)
    (case k__law_whole_right => k_is)
    (case g_written => k_is)
    (case l_written => k_is)
    (case c_written => k_is)
    (case k_written => k_is)
    (case g_Ratio___repr__ => k_is)
    (case l_Ratio___repr__ => k_is)
    (case c_Ratio___repr__ => k_is)
    (case k_Ratio___repr__ => k_is)
    (case g__law_right => k_is)
    (case l__law_right => k_is)
    (case c__law_right => k_is)
    (case k__law_right => k_is)
    (case o__law_right => k_is)
    (case v__law_right => rfl)
    (case t__law_right => walk_at "k_none")
    (case g_law => k_is)
    (case l_law => k_is)
    (case c_law => k_is)
    (case k_law => k_is)
    (case ri1 => k_is)
    (case ri4 => kernel_rfl)
    (case ri5 => kernel_rfl)
    (case ri6 => kernel_rfl)
    (case ri7 => kernel_rfl)
    (case ri8 => kernel_rfl)
    (case cl1 => k_is)
    (case cl2 => k_is)
    (case cl3 => k_is)
    (case cl4 => k_is)
    (case mk1 => k_is)
    (case mk2 => k_is)
    (case mk3 => k_is)
    (case nN => k_is)
    (case nU => k_is)
    (case o_add => kernel_rfl)
    (case o_sub => kernel_rfl)
    (case o_mul => kernel_rfl)
    (case c_lt => kernel_rfl)
    (case c_le => kernel_rfl)
    (case c_gt => kernel_rfl)
    (case c_ge => kernel_rfl)
    (case fn___neg__ => k_is)
    (case fn___abs__ => k_is)
    (case fn___repr__ => k_is)
    (case fn_divided => k_is)
    (case xB => kernel_rfl)
    (case tB => kernel_rfl)
