import PyProof.Rows.All
import Wide.All
import OpenK.AllK
import Wide.FinOn
import HandS.ForMost
import HandS.Exc
import HandS.ExcInit
import HandS.IsInst
import HandS.TupAny
import HandS.Conv
import HandS.Wide
import HandS.Deep
import KE.KExcIs
import HandS.Gcd
import HandS.Evl
import HandS.Walk
import HandS.SlotsOwn
import HandS.OwnEq
import KE.KOpsOwn
import PyProof.TwoTypes
import PyProof.EqKinds
import HandS.ExcValue
import HandS.Lambda
import KE.KEqDict
import HandS.EndTab
import HandS.ClsMeth
import HandS.Property
import HandS.Codes
import HandS.StrMore
import KE.OsScanText
import KE.IntTextLaws
import HandS.Defaults
import HandS.FStr
import HandS.Style
import HandS.Text
import HandS.NoneIn
import HandS.WordsExc
import PySem.Challenge.RW_seenabout_k03_texts_of_ratios_and_points
set_option Elab.async false
set_option linter.all false
set_option maxRecDepth 100000
set_option maxHeartbeats 4000000
/-! A layer over HandS: defs that are entered while nothing shows itself (so that repr may be told). -/
namespace G
open PySem PySem.Spec PyProof.Rows L2

abbrev Quiet (A : Around) : Prop := A.guards = some []

structure Fn (P : Program) (w : World) (K : PySem.W.Frag) (mg : Str → Option Value) (base : Heap) (CX : CXT) (k : Nat) (f : Addr) (fd : FuncData) (ps : List Str) (sp : Sp) : Prop where
  len : ∀ vs H Q E, sp vs H Q E → vs.length = ps.length
  run : ∀ (A : Around) (outer : List Env) (s : Shared) (H : Hp) (args : Args) (us : List Value) (vs : List V) (Q : VK) (E : XK), Quiet A → Room k A →
    Env0 P w K mg base A outer s H → BindsTo s fd args (ps.zip us) → Vals vs us → sp vs H Q E → codeAny (model P w) A (.call (.ref f) args) (CR CX outer P w H s Q E) s

section
variable {P : Program} {w : World} {K : PySem.W.Frag} {mg : Str → Option Value} {base : Heap} {CX : CXT}
theorem Fn.mono {j k : Nat} {f : Addr} {fd : FuncData} {ps : List Str} {sp : Sp} (F : Fn P w K mg base CX j f fd ps sp) (h : j ≤ k) : Fn P w K mg base CX k f fd ps sp :=
  ⟨F.len, fun A outer s H args us vs Q E hq hr => F.run A outer s H args us vs Q E hq (hr.mono h)⟩
/-- what is told of all surroundings is told of quiet ones -/
theorem Fn.ofOk {k : Nat} {f : Addr} {fd : FuncData} {ps : List Str} {sp : Sp} (F : FnOk P w K mg base CX k f fd ps sp) : Fn P w K mg base CX k f fd ps sp :=
  ⟨F.len, fun A outer s H args us vs Q E _ hr => F.run A outer s H args us vs Q E hr⟩

theorem fnOf {k : Nat} {f : Addr} {name qual : Str} {params : Arguments} {body : List Stmt} {scope : Scope} {kV doc pm cdv ct oc : Value} {an od : Option Addr} {osl : Array (Option Value)} {N ps : List Str} {sp : Sp}
    (lk : K.lookup f = some ⟨oc, od, .func (PySem.W.fnOf name qual params body scope .none kV doc pm an cdv ct), osl⟩) (hcd : PySem.W.codeIn K cdv qual = true)
    (S : FnScope N ps scope) (len : ∀ vs H Q E, sp vs H Q E → vs.length = ps.length)
    (body_ok : ∀ (A : Around) (outer : List Env) (s : Shared) (H : Hp) (vs : List V) (Q : VK) (E : XK), Quiet A → Room k (A.deeper (envOfC qual scope s.heap.objs.size f cdv)) → sp vs H Q E →
      ∃ t, PSs (cxOf CX P w K mg base N qual scope f cdv A outer s H E) body t ∧ t { nx := fun _ H' => Q .non H', rt := Q } (start N vs) H) :
    Fn P w K mg base CX (k + 1) f (PySem.W.fnOf name qual params body scope .none kV doc pm an cdv ct) ps sp := by
  constructor
  · exact len
  intro A outer s H args us vs Q E hq hr e0 hb r hsp
  have hl : vs.length = ps.length := len _ _ _ _ hsp
  have inS : K.In s.heap := e0.mod.kin.keeps (fun b o e => (e0.bs b o e).1)
  have noL : s.heap.NoLimit := e0.mod.nolimit.keeps (fun b o e => (e0.bs b o e).1)
  have kinds : ∀ y ∈ ps.zip us, scope.names.lookup y.1 = some .local ∨ (scope.names.lookup y.1 = some .cell ∧ ((cellsFrom (s.heap.objs.size + 1) scope.names []).lookup y.1).isSome = true) := by
    rintro ⟨n, v⟩ hy
    cases S.par n (List.of_mem_zip hy).1 with
    | inl q => exact Or.inl q
    | inr q => exact Or.inr ⟨q, PySem.W.cellsFrom_some _ _ _ (Or.inl q)⟩
  apply codeAny_call_function hr.depth (inS _ _ lk) rfl S.co S.gen rfl (PySem.W.codeRec_of inS hcd)
  refine hb _ _ _ _ (wpAny_newFunctionEnv_cells S.kind kinds ?_)
  intro env he s1 x
  cases he
  constructor
  · exact noL.keeps x.toInCall.keep
  apply codeAny_func
  obtain ⟨t, ht, q0⟩ := body_ok A outer s H vs Q E hq (hr.deeper _) hsp
  have I := inv_start (CX := CX) (P := P) (w := w) (K := K) (mg := mg) (base := base) (E := E) S hr.hd e0 hl r x
  apply wpAny_mono (ht.run [] s1 (start N vs) H _ I q0)
  · intro fl s' hs
    cases fl with
    | ret u => obtain ⟨v, σ', H', J, rv, q⟩ := hs; exact ⟨v, H', J.os, J.bare, J.base, J.hok, rv, q⟩
    | next => obtain ⟨σ', H', J, q⟩ := hs; exact ⟨V.non, H', J.os, J.bare, J.base, J.hok, rfl, q⟩
    | brk => exact hs.elim fun _ z => z.elim fun _ z => z.2.elim
    | cont => exact hs.elim fun _ z => z.elim fun _ z => z.2.elim
  · intro e s' hs
    exact hs

theorem ok {x qual : Str} {st : Stmt} {f : Addr} {fd : FuncData} {N ps : List Str} {k : Nat} {sp : Sp} (F : Fun K x qual st f fd) (S : FnScope N ps (defScope st)) (len : ∀ vs H Q E, sp vs H Q E → vs.length = ps.length)
    (body_ok : ∀ (cdv : Value) (A : Around) (outer : List Env) (s : Shared) (H : Hp) (vs : List V) (Q : VK) (E : XK), Quiet A → Room k (A.deeper (envOfC qual (defScope st) s.heap.objs.size f cdv)) → sp vs H Q E →
      ∃ t, PSs (cxOf CX0 P w K mg base N qual (defScope st) f cdv A outer s H E).nox (defBody st) t ∧ t { nx := fun _ H' => Q .non H', rt := Q } (start N vs) H) :
    Fn P w K mg base CX0 (k + 1) f fd ps sp := by
  obtain ⟨_, _, _, _, _, _, cdv, _, _, rfl, lk, hcd⟩ := F.ex
  apply fnOf lk hcd S len
  intro A outer s H vs Q E hq hr hsp
  obtain ⟨t, h, q⟩ := body_ok cdv A outer s H vs Q E hq hr hsp
  exact ⟨t, h.nox, q⟩
end

section
variable {X : Cx} {CX : CXT} {k : Nat} {f C : Addr} {fd : FuncData} {ps : List Str} {sp : Sp} {dvs : List V} {ds : List Value} {E : XK} {x m : Str} {p pos apos : Pos} {e o : Expr} {es : List Expr} {ta : TE} {t : TA}
theorem runFn {pins : List (Addr × Obj)} {σ : L2.St} {H : Hp} {s : Shared} {Q : VK} {us : List Value} {vs : List V} (F : Fn X.prog X.w X.K X.mg X.base CX k f fd ps sp) (hq : Quiet X.A) (hr : Room k X.A) (hb : Binds X.K fd ps ds) (hd : Vals dvs ds)
    (hx : Passes CX X E) (I : Inv X pins σ H s) (r : Vals vs us) (h : sp (vs ++ dvs) H Q E) : wpAny (model X.prog X.w) X.A (call (.ref f) us) (EP X pins σ Q) X.xe s := by
  have r2 : Vals (vs ++ dvs) (us ++ ds) := r.append hd
  have hl : (us ++ ds).length = ps.length := r2.length.symm.trans (F.len _ _ _ _ h)
  apply wpAny_call
  apply codeAny_mono (F.run X.A X.stack s H ⟨us, []⟩ (us ++ ds) (vs ++ dvs) Q E hq hr I.env0 (hb s us I.kIn hl) r2 h)
  intro res s' done
  match res, done with
  | .error e, z => exact hx pins σ H s e s' I z
  | .ok (.ret u), z => exact I.after z
  | .ok .next, z => exact z.elim
  | .ok .brk, z => exact z.elim
  | .ok .cont, z => exact z.elim
/-- f(e, ..) -/
theorem pe_fn (F : Fn X.prog X.w X.K X.mg X.base CX k f fd ps sp) (hq : Quiet X.A) (hr : Room k X.A) (hg : Gl X x) (hm : X.mg x = some (.ref f)) (hk : PySem.W.keepIn X.K (.ref f) = true) (hb : Binds X.K fd ps ds) (hd : Vals dvs ds) (hx : Passes CX X E)
    (ha : PA X (e :: es) t) (hdb : (x == ("__debug__" : Str)) = false := by decide) (he : starEach (e :: es) X.env = (false, eval e X.env) :: starEach es X.env := by rfl) (hpl : (backTo pos (starEach es X.env)).any (·.1) = false := by rfl) :
    PE X (.Call (.Name x p) (e :: es) [] pos) (tCall sp dvs E t) := by
  constructor
  intro pins s σ H Q I h
  apply wpAny_Call_Name_kw
  apply ld_glob I hg hm _ hdb
  apply PySem.W.callWith_K (h₀ := X.base) I.ok.mod.kin hk _ he hpl
  apply thn (ha.run pos pins s σ H _ I h)
  rintro us s1 ⟨vs, H1, I1, r, q⟩
  exact ⟨I1.kIn, runFn F hq hr hb hd hx I1 r q⟩
/-- f() -/
theorem pe_fn0 (F : Fn X.prog X.w X.K X.mg X.base CX k f fd ps sp) (hq : Quiet X.A) (hr : Room k X.A) (hg : Gl X x) (hm : X.mg x = some (.ref f)) (hk : PySem.W.keepIn X.K (.ref f) = true) (hb : Binds X.K fd ps ds) (hd : Vals dvs ds) (hx : Passes CX X E)
    (hdb : (x == ("__debug__" : Str)) = false := by decide) : PE X (.Call (.Name x p) [] [] pos) (tCall sp dvs E tNil) := by
  constructor
  intro pins s σ H Q I h
  apply wpAny_Call_Name_kw
  apply ld_glob I hg hm _ hdb
  exact PySem.W.callWith_K0 I.kIn hk (runFn (us := []) F hq hr hb hd hx I .nil h)
end
end G

namespace G
open PySem PySem.Spec PyProof.Rows L2

/-! ### what a value of the abstract heap reads as, dicts with plain keys among it -/
def keyD : Key → PyData
  | .inl i => .int i
  | .inr x => .str x
mutual
inductive Da (H : Hp) : V → PyData → Prop
  | non : Da H .non .none
  | bl (b : Bool) : Da H (.bl b) (.bool b)
  | int (i : Int) : Da H (.int i) (.int i)
  | str (x : Str) : Da H (.str x) (.str x)
  | lst {a : Addr} {xs : List V} {ds : List PyData} : H a = some (.lst xs) → a ≠ sysModules → DaAll H xs ds → Da H (.ref a) (.list ds)
  | tup {a : Addr} {xs : List V} {ds : List PyData} : H a = some (.tup xs) → DaAll H xs ds → Da H (.ref a) (.tuple ds)
  | dct {a : Addr} {kvs : List (Key × V)} {ds : List PyData} : H a = some (.dK kvs) → DaAll H (kvs.map (·.2)) ds → Da H (.ref a) (.dict ((kvs.map fun p => keyD p.1).zip ds))
inductive DaAll (H : Hp) : List V → List PyData → Prop
  | nil : DaAll H [] []
  | cons {v : V} {vs : List V} {d : PyData} {ds : List PyData} : Da H v d → DaAll H vs ds → DaAll H (v :: vs) (d :: ds)
end
theorem DaAll.length {H : Hp} : ∀ {vs : List V} {ds : List PyData}, DaAll H vs ds → vs.length = ds.length
  | _, _, .nil => rfl
  | _, _, .cons _ t => congrArg (· + 1) (DaAll.length t)
mutual
theorem Da.same {H H' : Hp} (S : Same H H') : ∀ {v : V} {d : PyData}, Da H v d → Da H' v d
  | _, _, .non => .non
  | _, _, .bl b => .bl b
  | _, _, .int i => .int i
  | _, _, .str x => .str x
  | _, _, .lst e n t => .lst (S _ _ e) n (DaAll.same S t)
  | _, _, .tup e t => .tup (S _ _ e) (DaAll.same S t)
  | _, _, .dct e t => .dct (S _ _ e) (DaAll.same S t)
theorem DaAll.same {H H' : Hp} (S : Same H H') : ∀ {vs : List V} {ds : List PyData}, DaAll H vs ds → DaAll H' vs ds
  | _, _, .nil => .nil
  | _, _, .cons h t => .cons (Da.same S h) (DaAll.same S t)
end
theorem reads_keys {P : Program} {w : World} (h : Heap) : ∀ {es : List DictEntry} {kvs : List (Key × Value)}, Pairs (mixKind P w) es kvs → ReadsAll h (es.map (·.key)) (kvs.map fun p => keyD p.1) []
  | _, _, .nil => .nil
  | _, _, .cons (e := e) (kv := kv) hk _ t => by
    have h1 : Reads h e.key (keyD kv.1) [] := by
      rcases keyIs_shape (k := kv.1) (v := e.key) hk with ⟨i, t, e1, e2⟩ | ⟨x, t, e1, e2⟩
      · rw [e1, e2]; exact Reads.int i t
      · rw [e1, e2]; exact Reads.str x t
    exact ReadsAll.cons (as := []) (bs := []) h1 (reads_keys h t)
theorem vals_of_pairs {P : Program} {w : World} : ∀ {es : List DictEntry} {kvs : List (Key × Value)}, Pairs (mixKind P w) es kvs → es.map (·.val) = kvs.map (·.2)
  | _, _, .nil => rfl
  | _, _, .cons _ hv t => by rw [List.map_cons, List.map_cons, hv, vals_of_pairs t]
theorem KV.keys {kvs : List (Key × V)} {vs : List (Key × Value)} (r : KV kvs vs) : kvs.map (fun p => keyD p.1) = vs.map (fun p => keyD p.1) := by
  induction r with
  | nil => rfl
  | cons h _ ih => rw [List.map_cons, List.map_cons, h.1, ih]
theorem KV.valsV {kvs : List (Key × V)} {vs : List (Key × Value)} (r : KV kvs vs) : Vals (kvs.map (·.2)) (vs.map (·.2)) := by
  induction r with
  | nil => exact .nil
  | cons h _ ih => exact .cons h.2 ih

section
variable {X : Cx} {pins : List (Addr × Obj)} {σ : L2.St} {H : Hp} {s : Shared}
mutual
theorem Da.reads (I : Inv X pins σ H s) : ∀ {v : V} {d : PyData} {u : Value}, Da H v d → RelV v u → ∃ as, Reads s.heap u d as ∧ sysModules ∉ as
  | _, _, _, .non, r => by cases r; exact ⟨_, .none, by simp⟩
  | _, _, _, .bl b, r => by cases r; exact ⟨_, .bool b, by simp⟩
  | _, _, _, .int i, r => by obtain ⟨t, rfl⟩ := r; exact ⟨_, .int i t, by simp⟩
  | _, _, _, .str x, r => by obtain ⟨t, rfl⟩ := r; exact ⟨_, .str x t, by simp⟩
  | _, _, _, .lst e n t, r => by
    cases r
    obtain ⟨_, its, m, rv, ho⟩ := I.hok _ _ e
    obtain ⟨as, hr, hn⟩ := DaAll.reads I t rv
    exact ⟨_, .list ho rfl rfl hr, by simp only [List.mem_cons, not_or]; exact ⟨fun z => n z.symm, hn⟩⟩
  | _, _, _, .tup e t, r => by
    cases r
    obtain ⟨_, its, rv, o, ho, hc, m, hd⟩ := I.hok _ _ e
    obtain ⟨as, hr, hn⟩ := DaAll.reads I t rv
    exact ⟨_, .tuple ho hc hd hr, hn⟩
  | _, _, _, .dct (a := a) (kvs := kvs) (ds := ds) e t, r => by
    cases r
    obtain ⟨_, hs, vs, rel, o, es, ep, ho, hx, hd, hk, hp, _⟩ := I.hok _ _ e
    obtain ⟨bs, hr, hn⟩ := DaAll.reads I t (KV.valsV rel)
    have e1 : (((kvs.map fun p => keyD p.1).zip ds).map (·.1)) = vs.map fun p => keyD p.1 := by
      rw [List.map_fst_zip (by rw [List.length_map]; have := t.length; rw [List.length_map] at this; omega)]
      exact KV.keys rel
    have e2 : (((kvs.map fun p => keyD p.1).zip ds).map (·.2)) = ds :=
      List.map_snd_zip (by rw [List.length_map]; have := t.length; rw [List.length_map] at this; omega)
    refine ⟨_, .dict (as := []) (bs := bs) ho hx.1 hd ?_ ?_, ?_⟩
    · rw [e1]; exact reads_keys s.heap hp
    · rw [e2, vals_of_pairs hp]; exact hr
    · have : sysModules ≠ a := fun z => by rw [← z] at hs; exact absurd hs (by decide)
      simp only [List.append_nil, List.singleton_append, List.mem_cons, not_or]
      exact ⟨this, hn⟩
theorem DaAll.reads (I : Inv X pins σ H s) : ∀ {vs : List V} {ds : List PyData} {us : List Value}, DaAll H vs ds → Vals vs us → ∃ as, ReadsAll s.heap us ds as ∧ sysModules ∉ as
  | _, _, _, .nil, r => by cases r; exact ⟨_, .nil, by simp⟩
  | _, _, _, .cons h t, r => by
    cases r with
    | cons r1 r2 =>
      obtain ⟨as, q1, n1⟩ := Da.reads I h r1
      obtain ⟨bs, q2, n2⟩ := DaAll.reads I t r2
      exact ⟨_, .cons q1 q2, by rw [List.mem_append, not_or]; exact ⟨n1, n2⟩⟩
end
end

/-! ### data that is short enough to be shown -/
structure Gd (n k : Nat) (d : PyData) : Prop where
  short : d.leavesShort 13 = true
  show_ : d.showable = true
  depth : d.depth ≤ k
  weight : d.weight ≤ n
theorem Gd.mono {m n j k : Nat} {d : PyData} (g : Gd m j d) (h : m ≤ n) (h2 : j ≤ k) : Gd n k d := ⟨g.short, g.show_, Nat.le_trans g.depth h2, Nat.le_trans g.weight h⟩
theorem Gd.fits {n k : Nat} {d : PyData} (g : Gd n k d) (h : n ≤ 2 ^ 20) : d.shown.length ≤ sizeLine := PyData.shown_fits (by decide) (by decide) g.short (Nat.le_trans g.weight h)
/-- by a look: for written data -/
def gdB (n k : Nat) (d : PyData) : Bool := d.leavesShort 13 && (d.showable && (decide (d.depth ≤ k) && decide (d.weight ≤ n)))
theorem gdB_ok {n k : Nat} {d : PyData} (h : gdB n k d = true) : Gd n k d := by
  obtain ⟨h1, h⟩ := Bool.and_eq_true_iff.mp h
  obtain ⟨h2, h⟩ := Bool.and_eq_true_iff.mp h
  obtain ⟨h3, h4⟩ := Bool.and_eq_true_iff.mp h
  exact ⟨h1, h2, of_decide_eq_true h3, of_decide_eq_true h4⟩
theorem gd_all {n k : Nat} : ∀ {ds : List PyData}, (∀ d ∈ ds, Gd n k d) → PyData.leavesShortAll 13 ds = true ∧ PyData.showableAll ds = true ∧ PyData.depthAll ds ≤ k ∧ PyData.weightAll ds ≤ ds.length * (n + 1)
  | [], _ => ⟨by simp [PyData.leavesShortAll], by simp [PyData.showableAll], by simp [PyData.depthAll], by simp [PyData.weightAll]⟩
  | d :: ds, h => by
    obtain ⟨a, b, c, e⟩ := gd_all (fun x hx => h x (List.mem_cons_of_mem _ hx))
    have g := h d (List.mem_cons_self ..)
    refine ⟨by simp [PyData.leavesShortAll, g.short, a], by simp [PyData.showableAll, g.show_, b], ?_, ?_⟩
    · simp only [PyData.depthAll]; have := g.depth; omega
    · simp only [PyData.weightAll, List.length_cons, Nat.succ_mul]; have := g.weight; omega
theorem gd_tup {n k m N : Nat} {ds : List PyData} (h : ∀ d ∈ ds, Gd n k d) (hl : ds.length ≤ m) (hN : m * (n + 1) ≤ N) : Gd N (k + 1) (.tuple ds) := by
  obtain ⟨a, b, c, e⟩ := gd_all h
  have : ds.length * (n + 1) ≤ m * (n + 1) := Nat.mul_le_mul_right _ hl
  exact ⟨by simpa [PyData.leavesShort] using a, by simpa [PyData.showable] using b, by simp only [PyData.depth]; omega, by simp only [PyData.weight]; omega⟩
theorem gd_lst {n k m N : Nat} {ds : List PyData} (h : ∀ d ∈ ds, Gd n k d) (hl : ds.length ≤ m) (hN : m * (n + 1) ≤ N) : Gd N (k + 1) (.list ds) := by
  obtain ⟨a, b, c, e⟩ := gd_all h
  have : ds.length * (n + 1) ≤ m * (n + 1) := Nat.mul_le_mul_right _ hl
  exact ⟨by simpa [PyData.leavesShort] using a, by simpa [PyData.showable] using b, by simp only [PyData.depth]; omega, by simp only [PyData.weight]; omega⟩

section
variable {X : Cx}
/-- repr of data, where nothing shows itself -/
theorem call_reprD (hq : Quiet X.A) (hu : X.A.units + 64 < cLine) : CallR X (.builtin "repr") (fun xs H Q => ∃ v d n k, xs = [v] ∧ Da H v d ∧ Gd n k d ∧ (n ≤ 2 ^ 20 ∧ k ≤ 20) ∧ Q (.str d.shown) H) := by
  intro pins s σ H xs us Q I r h
  obtain ⟨v, d, n, k, rfl, hd, g, ⟨hn, hk⟩, q⟩ := h
  obtain ⟨u, rfl, ru⟩ := vals1 r
  have fits := g.fits hn
  have tail : ∀ (A : Addr), u = .ref A → wpAny (model X.prog X.w) X.A (call (.builtin "repr") [u]) (EP X pins σ Q) X.xe s := by
    rintro a rfl
    obtain ⟨as, hr, hns⟩ := Da.reads I hd ru
    refine repr_of_reads' (h₀ := s.heap) hr g.show_ (fun _ => hns) hq (by have := g.depth; omega) (fun _ _ z => z) (fun h' t tk hk => ?_) fits
    exact ⟨.str d.shown, H, I.kept hk, ⟨_, rfl⟩, q⟩
  cases hd with
  | non => cases ru; exact P.repr_of_none ⟨.str _, H, I.tok _, ⟨_, rfl⟩, q⟩
  | bl b =>
    cases ru
    refine P.repr_of_bool ?_
    exact ⟨.str _, H, I.tok _, ⟨_, rfl⟩, q⟩
  | int i =>
    obtain ⟨t, rfl⟩ := ru
    have hz : i.natAbs.log2 < 1920 := by have := g.show_; simpa [PyData.showable] using this
    exact P.repr_of_int hz ⟨.str _, H, I.tok _, ⟨_, rfl⟩, q⟩
  | str x =>
    obtain ⟨t, rfl⟩ := ru
    exact P.repr_of_str ⟨.str _, H, I.tok _, ⟨_, rfl⟩, q⟩ fits
  | lst e n t => cases ru; exact tail _ rfl
  | tup e t => cases ru; exact tail _ rfl
  | dct e t => cases ru; exact tail _ rfl
end
end G

namespace G
open PySem PySem.Spec PyProof.Rows L2

/-! ### errors of own classes as values: made, read, asked for their class -/
/-- what the written part says of an error's class -/
structure EC (K : PySem.W.Frag) (C : Addr) : Prop where
  ox : OexC K C
  hd : PySem.W.hasDictIn K C = true
  ga : PySem.W.findIn K (.ref C) "__getattribute__" = some (some (.builtin "BaseException.__getattribute__"))
  gg : PySem.W.findIn K (.ref C) "__getattr__" = some none
  nv : PySem.W.findIn K (.ref C) "value" = some none
  kl : PySem.W.findIn K (.ref C) "__class__" = some (some (.builtin "object.__class__"))
  ob : PySem.W.mroIn K C (.type "object") = some true
structure EK (K : PySem.W.Frag) : Prop where
  sp : PySem.W.specialIn K (.builtin "object.__class__") "__get__" = some (some (.builtin "getset_descriptor.__get__"))
  tk : PySem.W.takesIn K (.builtin "object.__class__") = some true
/-- an error of the class at C that keeps v -/
def ErrAt (H : Hp) (a C : Addr) (v : V) : Prop := ∃ d, H a = some (exo a C (some d)) ∧ H d = some (exd d [("value", v)])
theorem ErrAt.same {H H' : Hp} (S : Same H H') {a C : Addr} {v : V} (e : ErrAt H a C v) : ErrAt H' a C v := let ⟨d, h1, h2⟩ := e; ⟨d, S _ _ h1, S _ _ h2⟩
theorem EC.cls {K : PySem.W.Frag} {C : Addr} (T : EC K C) : (PySem.W.clsIn K C).isSome = true := by
  have h := T.hd
  unfold PySem.W.hasDictIn at h
  cases e : PySem.W.clsIn K C with
  | none => rw [e] at h; exact absurd h (by decide)
  | some c => rfl
section
variable {X : Cx}
theorem err_inst {pins : List (Addr × Obj)} {σ : L2.St} {H : Hp} {s : Shared} (I : Inv X pins σ H s) {a C : Addr} {v : V} (e : ErrAt H a C v) :
    ∃ (ox : Obj) (od : Obj) (mA : Str → Option Value) (dx : Addr), PySem.W.InstAt s.heap a ox C (some od) ∧ s.heap.Ns1 dx mA ∧ s.heap.get? dx = some od ∧ (∀ f, RelO (([("value", v)] : List (Str × V)).lookup f) (mA f)) := by
  obtain ⟨d, h1, h2⟩ := e
  obtain ⟨t1, ho⟩ := exo_at I.hok h1
  obtain ⟨mA, hn, hr⟩ := exd_at I.hok h2
  obtain ⟨o, es, ep, hd, hz⟩ := id hn
  exact ⟨_, o, mA, d, ⟨ho, rfl, rfl, hd⟩, hn, hd, hr⟩
/-- e.value -/
theorem pe_value {e : Expr} {te : TE} {pos : Pos} (he : PE X e te) (hb : attributeBase e "value" X.env (eval e X.env) = eval e X.env := by rfl) :
    PE X (.Attribute e "value" pos) (fun σ H Q => te σ H fun x H1 => ∃ a C v, x = .ref a ∧ EC X.K C ∧ ErrAt H1 a C v ∧ Q v H1) := by
  constructor
  intro pins s σ H Q I h
  refine attr_of hb (thn (he.run pins s σ H _ I h) ?_)
  rintro u s1 ⟨x, H1, I1, rx, a, C, v, rfl, T, ea, q⟩
  cases rx
  obtain ⟨ox, od, mA, dx, J, hn, hd, hr⟩ := err_inst I1 ea
  obtain ⟨od', hod, hl⟩ := lookIn_ns hn
  have eo : od' = od := Option.some.inj (hod.symm.trans hd)
  subst eo
  obtain ⟨u, hu, ru⟩ := RelO.some_of (v := v) (o := mA "value") (by have := hr "value"; simpa [List.lookup] using this)
  exact HandSPX.exc_get I1.kIn J T.ga T.gg T.ox.exC (PySem.W.findObj_own T.hd T.nv rfl (by rw [hl, hu])) (handed_of ru) ⟨v, H1, I1.tok _, ru, q⟩
/-- isinstance(e, C) of such an error -/
theorem call_isErr (S : EK X.K) : CallR X (.builtin "isinstance") (fun xs H Q => ∃ (a C : Addr) (v c : V) (u : Value) (b : Bool), xs = [.ref a, c] ∧ ClsV c u ∧ EC X.K C ∧ ErrAt H a C v ∧ PySem.W.kitOne X.K (.ref C) u = some b ∧ Q (.bl b) H) := by
  intro pins s σ H xs us Q I r h
  obtain ⟨a, C, v, c, u, b, rfl, k, T, ea, e, q⟩ := h
  obtain ⟨u1, u2, rfl, r1, r2⟩ := vals2 r
  have e2 := k.eq r2
  subst e2
  cases r1
  obtain ⟨ox, od, mA, dx, J, hn, hd, hr⟩ := err_inst I ea
  exact PySem.W.kia_one (PySem.W.kitx_exc (gt := none) T.cls T.ga T.gg T.ox.exC T.kl S.sp S.tk T.ob) I.kIn J e (fun z => nomatch z) fun tk => ⟨.bl b, H, I.tok tk, rfl, q⟩

/-- what __init__ of the errors promises: the first attribute, value -/
def spErrInit (K : PySem.W.Frag) : Sp := fun vs H Q _ => ∃ (a C : Addr) (v : V), vs = [.ref a, v] ∧ OexC K C ∧ PySem.W.findIn K (.ref C) "value" = some none ∧ H a = some (exo a C none) ∧
  ∀ dx, H dx = none → dx ≠ a → Q .non (upd (upd H dx (exd dx [("value", v)])) a (exo a C (some dx)))
/-- C(e): a new error of the class at C, with its dict -/
def tErr (C : Addr) (ta : TA) : TE := fun σ H Q => ta σ H fun vs H1 => ∃ v, vs = [v] ∧ ∀ a H2, H1 a = none → Same H1 H2 → ErrAt H2 a C v → Q (.ref a) H2
theorem pe_err {CX : CXT} {k : Nat} {fI C : Addr} {fd : FuncData} {x : Str} {e : Expr} {ta : TA} {p pos : Pos} (T : EC X.K C) (iC : PySem.W.findIn X.K (.ref C) "__init__" = some (some (.ref fI))) (tI : PySem.W.typeIn X.K (.ref fI) = some (.type "function"))
    (F : FnOk X.prog X.w X.K X.mg X.base CX k fI fd ["self", "value"] (spErrInit X.K)) (hr : Room (k + 1) X.A) (hb : Binds X.K fd ["self", "value"] []) (hx : Passes CX X (fun _ _ _ => False)) (hg : Gl X x) (hm : X.mg x = some (.ref C)) (ha : PA X [e] ta)
    (hdb : (x == ("__debug__" : Str)) = false := by decide) (he : starEach (e :: []) X.env = (false, eval e X.env) :: starEach [] X.env := by rfl) (hpl : (backTo pos (starEach [] X.env)).any (·.1) = false := by rfl) :
    PE X (.Call (.Name x p) [e] [] pos) (tErr C ta) := by
  constructor
  intro pins s σ H Q I h
  obtain ⟨nm, q, N, bs, bm, sn, sub, ab, col, dd, k0, k1, k2, k3, k5, hC, hbm⟩ := T.ox.cls
  apply wpAny_Call_Name_kw
  apply ld_glob I hg hm _ hdb
  apply PySem.W.callWith_K (h₀ := X.base) I.ok.mod.kin T.ox.kC _ he hpl
  apply thn (ha.run pos pins s σ H _ I h)
  rintro us s1 ⟨vs, H1, I1, r1, v, rfl, q1⟩
  refine ⟨I1.kIn, ?_⟩
  obtain ⟨u, rfl, ru⟩ := vals1 r1
  show wpAny _ _ (call (.ref C) [u]) _ _ _
  obtain ⟨hp, g, dr, tk, os⟩ := s1
  have up : hp.objs.size ≤ hp.objs.size + 1 := Nat.le_succ _
  have fresh : H1 (hp.objs.size + 1) = none := I1.hok.fresh up
  have keep : ∀ b o, hp.get? b = some o → ((hp.push (PySem.W.kdv_tup [u])).push (PySem.HandSPX.excO C hp.objs.size)).get? b = some o := fun b o z => Heap.get?_push_of_some _ (Heap.get?_push_of_some _ z)
  have here : ((hp.push (PySem.W.kdv_tup [u])).push (PySem.HandSPX.excO C hp.objs.size)).get? (hp.objs.size + 1) = some (PySem.HandSPX.excO C hp.objs.size) := by heap_get
  have J := I1.laid (t' := tk) (a := hp.objs.size + 1) (o := exo (hp.objs.size + 1) C none) keep up (exo_ok here)
  have sp : spErrInit X.K [.ref (hp.objs.size + 1), v] (upd H1 (hp.objs.size + 1) (exo (hp.objs.size + 1) C none)) (fun w H2 => w = .non ∧ Q (.ref (hp.objs.size + 1)) H2) (fun _ _ _ => False) := by
    refine ⟨hp.objs.size + 1, C, v, rfl, T.ox, T.nv, upd_same, fun dx hdx hne => ⟨rfl, q1 _ _ fresh ?_ ⟨dx, upd_same, ?_⟩⟩⟩
    · intro b o z
      rw [upd_ne hne] at hdx
      rw [upd_ne (ne_of_none z fresh), upd_ne (ne_of_none z hdx), upd_ne (ne_of_none z fresh)]
      exact z
    · rw [upd_ne hne]; exact upd_same
  apply wpAny_call
  apply PySem.HandSPX.call_own F_ve (fun Y => PySem.HandSPX.refsVE_contains Y bm hbm) (I1.kIn _ _ hC) (PySem.W.looks_findIn I1.kIn iC) (fun self => PySem.W.bind_fn I1.kIn self tI) (by rw [List.length_singleton, sizeLine_eq]; omega)
  have B := hb ⟨(hp.push (PySem.W.kdv_tup [u])).push (PySem.HandSPX.excO C hp.objs.size), g, dr, tk, os⟩ [.ref (hp.objs.size + 1), u] J.kIn rfl
  apply codeAny_mono (F.run _ X.stack _ _ ⟨[.ref (hp.objs.size + 1), u], []⟩ [.ref (hp.objs.size + 1), u] [.ref (hp.objs.size + 1), v] _ (fun _ _ _ => False) (hr.make C [u] []) (J.env0.make C [u] []) B (.cons rfl (.cons ru .nil)) sp)
  intro res s' done
  match res, done with
  | .error er, z => exact hx pins σ _ _ er s' J z
  | .ok .next, z => exact z.elim
  | .ok .brk, z => exact z.elim
  | .ok .cont, z => exact z.elim
  | .ok (.ret w), z =>
    obtain ⟨y, H2, J2, ry, ey, q2⟩ := J.after z
    subst ey
    exact ⟨ry, .ref (hp.objs.size + 1), H2, J2, rfl, q2⟩
where F_ve := PySem.F.excBase_ValueError
end
end G

namespace G
open PySem PySem.Spec PyProof.Rows L2

/-! ### the law's own call, entered while nothing shows itself -/
theorem lawCall {P : Program} {w : World} {K : PySem.W.Frag} {mg mb : Str → Option Value} {k : Nat} {fa a : Addr} {fd : FuncData} {x : Str} {sp : Sp} {s₁ : Shared} {vs : List Value} {ns : List Int}
    (KX : K.In s₁.heap) (glob : s₁.heap.Ns mainGlobals mg) (bltn : s₁.heap.Ns builtinsNs mb) (boot : ∀ x : Str, x ≠ "__name__" → mb x = bootBuiltins x) (lim : s₁.heap.NoLimit) (gens : s₁.gens = #[])
    (obj : s₁.heap.get? a = some { cls := .type "list", data := .seq vs.toArray }) (nums : IntsAre vs ns) (short : ns.length ≤ sizeLine) (room : Room k callerA)
    (F : ∀ base : Heap, K.In base → base.Ns mainGlobals mg → Fn P w K mg base CX0 k fa fd [x] sp) (bind : ∀ (s : Shared) (u : Value), BindsTo s fd ⟨[u], []⟩ [(x, u)])
    (told : ∀ H : Hp, Only H → SqL K H a (ns.map V.int) → sp [.ref a] H (fun v _ => v = .bl true) fun _ _ _ => False) :
    codeAny (model P w) callerA (.call (.ref fa) ⟨[.ref a], []⟩) (fun r s' => r = .ok (.ret (.bool true)) ∧ OldK s₁.heap s'.heap ∧ s'.os = s₁.os ∧ AllBare s'.gens) s₁ := by
  have rv := vals_ints nums
  have lenV := nums.length
  -- over an abstract heap that knows of the script at most
  suffices core : ∀ H : Hp, Only H → SqL K H a (ns.map V.int) → HOk P w H s₁.heap → (∀ b, H b ≠ none → b = a) → (H a ≠ none → K.lookup a = none) →
      codeAny (model P w) callerA (.call (.ref fa) ⟨[.ref a], []⟩) (fun r s' => r = .ok (.ret (.bool true)) ∧ OldK s₁.heap s'.heap ∧ s'.os = s₁.os ∧ AllBare s'.gens) s₁ by
    cases hk : K.lookup a with
    | some o =>
      have z := KX a o hk
      rw [obj] at z
      obtain rfl := Option.some.inj z
      apply core (fun _ => none) (fun _ => Or.inl rfl)
      · exact Or.inr ⟨_, vs.toArray, _, hk, rfl, rfl, rfl, by rw [List.size_toArray, lenV]; exact short, by simpa using rv⟩
      · intro b u z
        exact absurd (show (none : Option HO) = some u from z) (by simp)
      · exact fun b z => absurd rfl z
      · exact fun z => absurd rfl z
    | none =>
      apply core (fun b => if b = a then some (.frz { cls := .type "list", data := .seq vs.toArray } (.lst (ns.map V.int))) else none)
      · intro b
        by_cases hb : b = a
        · exact Or.inr ⟨_, _, if_pos hb⟩
        · exact Or.inl (if_neg hb)
      · exact Or.inl (Or.inr ⟨{ cls := .type "list", data := .seq vs.toArray }, if_pos rfl⟩)
      · intro b u z
        by_cases hb : b = a
        · obtain rfl := Option.some.inj ((if_pos hb).symm.trans z)
          rw [hb]
          exact ⟨obj, by rw [List.length_map]; exact short, vs, _, rv, obj⟩
        · exact absurd ((if_neg hb).symm.trans z) (by simp)
      · intro b z
        by_cases hb : b = a
        · exact hb
        · exact absurd (if_neg hb) z
      · exact fun _ => hk
  intro H hO hS hok hA hK
  have dictFree : ∀ {b : Addr} {o : Obj} {es : Array DictEntry} {ep : Nat}, s₁.heap.get? b = some o → o.data = .dict es ep → H b = none := by
    intro b o es ep e d
    cases q : H b with
    | none => rfl
    | some u =>
      obtain rfl := hA b (by rw [q]; simp)
      rw [obj] at e
      obtain rfl := Option.some.inj e
      exact absurd (show Data.seq vs.toArray _ = Data.dict es ep from d) (by simp)
  have nsB : ∀ {b : Addr} {m : Str → Option Value}, s₁.heap.Ns b m → (hidT s₁.heap H).Ns b m := by
    rintro b m ⟨o, es, ep, e, d, r⟩
    exact ⟨o, es, ep, hidT_get e (dictFree e d), d, r⟩
  have inB : K.In (hidT s₁.heap H) := by
    intro b o e
    apply hidT_get (KX b o e)
    cases q : H b with
    | none => rfl
    | some u =>
      obtain rfl := hA b (by rw [q]; simp)
      rw [hK (by rw [q]; simp)] at e
      exact absurd e (by simp)
  have M : Mod K mg (hidT s₁.heap H) := by
    obtain ⟨mc, l1, l2⟩ := lim
    exact ⟨inB, nsB glob, ⟨mb, nsB bltn, boot⟩, ⟨mc, nsB l1, l2⟩⟩
  have none_in : ∀ b : Addr, ¬ b ∈ frs ([] : List Env) := fun b z => absurd (show b ∈ ([] : List Addr) from z) (by simp)
  have e0 : Env0 P w K mg (hidT s₁.heap H) callerA [] s₁ H := ⟨rfl, M, fun b o e => of_hidT e, Nat.le_of_eq (hidT_size _ _), trivial, fun b hb => absurd hb (none_in b), hok, .of_eq gens⟩
  apply codeAny_mono ((F _ inB (nsB glob)).run callerA [] s₁ H ⟨[.ref a], []⟩ [.ref a] [.ref a] _ _ rfl room e0 (bind s₁ (.ref a)) (.cons rfl .nil) (told H hO hS))
  intro r s' h
  match r, h with
  | .error e, h => exact h.elim
  | .ok .next, h => exact h.elim
  | .ok .brk, h => exact h.elim
  | .ok .cont, h => exact h.elim
  | .ok (.ret u), h =>
    obtain ⟨v, H', os, bare, un, hok', r', q⟩ := h
    obtain rfl : v = .bl true := q
    obtain rfl : u = Value.bool true := r'
    refine ⟨rfl, OldK.of_keep fun b o e => ?_, os, bare⟩
    cases q : H b with
    | none => exact un.keep b o e q (none_in b) (by simp)
    | some u =>
      rcases hO b with z | ⟨ob, xs, z⟩
      · rw [q] at z; cases z
      · obtain ⟨e1, _⟩ := hok b _ z
        obtain ⟨e2, _⟩ := hok' b _ (un.frzs b ob _ z)
        rw [e] at e1
        obtain rfl := Option.some.inj e1
        exact e2
theorem walkOf {l : PySem.W.OpenLaw} {n k : Nat} {q : Program} {loose : List Str} {XP : (Str → Option Value) → Heap → Prop} {YP : World → Heap → Prop} {d : DefRec} {K : Params → PySem.W.Frag} {sp : PySem.W.Frag → Sp} {x : Str}
    (hn : l.most = some n) (hn2 : n ≤ sizeLine) (hdf : d.params.defaults = []) (hr : Room k callerA) (hY : ∀ (w : World) (h : Heap), YP w h → (K w.params).In h)
    (F : ∀ (w : World) (mg : Str → Option Value) (fa : Addr) (h : Heap), (K w.params).In h → h.Ns mainGlobals mg → mg d.name = some (.ref fa) →
      ∃ fd : FuncData, (∀ (s : Shared) (u : Value), BindsTo s fd ⟨[u], []⟩ [(x, u)]) ∧ ∀ base : Heap, (K w.params).In base → base.Ns mainGlobals mg → Fn l.prog w (K w.params) mg base CX0 k fa fd [x] (sp (K w.params)))
    (told : ∀ (K : PySem.W.Frag) (H : Hp) (a : Addr) (ns : List Int), ns.length ≤ n → Only H → SqL K H a (ns.map V.int) → sp K [.ref a] H (fun v _ => v = .bl true) fun _ _ _ => False) :
    PySem.W.WalkO q loose XP YP l.row.toRowW d [] (fun f vs => PySem.call f vs) := by
  apply Att.attach_call hn hdf
  intro w s₀ s₁ mg mb fa o pm cd doc a vs ns G Y ho hd hcd hmg hobj hints hlen hg
  have KX := hY w _ Y
  obtain ⟨fd, hb, hF⟩ := F w mg fa _ KX G.T.g hmg
  exact lawCall KX G.T.g G.T.b G.T.builtins G.T.nolimit hg hobj hints (Nat.le_trans hlen hn2) hr hF hb fun H hO hS => told (K w.params) H a ns hlen hO hS
end G

namespace G
open PySem PySem.Spec PyProof.Rows L2 HT

/-! ### further operators -/
/-- a ** b of greater ints -/
def CPowW (i j : Int) : Prop := 2 ≤ i ∧ 1 ≤ j ∧ ((Builtin.Int.intBits i : Nat) : Int) * j ≤ 100000
section
variable {X : Cx}
theorem op_powW : OpR X (binaryOp .Pow) (rI CPowW fun i j => .int (i ^ j.toNat)) := opI fun i j t u s Q E hc q => by
  obtain ⟨h1, h2, h3⟩ := hc
  have n0 : ¬ (j == 0) = true := by simp; omega
  have n1 : ¬ (i == 0 || i == 1) = true := by simp; omega
  have n2 : ¬ (i == -1) = true := by simp; omega
  have n3 : ¬ Builtin.Int.intTooBig (((Builtin.Int.intBits i : Nat) : Int) * j) = true := by
    have e : bitsLine = 134217728 := by decide
    unfold Builtin.Int.intTooBig
    rw [e]
    intro z
    have := of_decide_eq_true z
    omega
  exact PySem.AutoIntOps.pow_4 (by omega) n0 n1 n2 n3 q
end

section
variable {prog : Program} {w : World} {A : Around} {E : Value → Shared → Prop} {s : Shared}
theorem fm_map {α β : Type} {f : α → Option β} {g : α → β} : ∀ (l : List α), (∀ m ∈ l, f m = some (g m)) → l.filterMap f = l.map g
  | [], _ => rfl
  | a :: r, h => by rw [List.filterMap_cons, h a (List.mem_cons_self ..), List.map_cons, fm_map r fun m hm => h m (List.mem_cons_of_mem _ hm)]
theorem back_run (xs : List Value) : ((List.range xs.length).filterMap fun (m : Nat) => xs.toArray[((xs.length : Int) - 1 + (m : Int) * (-1)).toNat]?) = xs.reverse := by
  apply List.ext_getElem?
  intro i
  have e : ((List.range xs.length).filterMap fun (m : Nat) => xs.toArray[((xs.length : Int) - 1 + (m : Int) * (-1)).toNat]?) = (List.range xs.length).map fun (m : Nat) => (xs[xs.length - 1 - m]?).getD .none := by
    apply fm_map
    intro m hm
    have hm' : m < xs.length := List.mem_range.mp hm
    have e1 : ((xs.length : Int) - 1 + (m : Int) * (-1)).toNat = xs.length - 1 - m := by omega
    rw [e1, List.getElem?_toArray, List.getElem?_eq_getElem (by omega)]
    rfl
  rw [e, List.getElem?_map]
  by_cases hi : i < xs.length
  · rw [List.getElem?_range hi, Option.map_some, List.getElem?_eq_getElem (by omega), List.getElem?_reverse hi, List.getElem?_eq_getElem (by omega)]
    rfl
  · rw [List.getElem?_eq_none (by simpa using hi), List.getElem?_eq_none (by rw [List.length_reverse]; omega)]
    rfl
theorem getItem_tuple_back {t sl : Addr} {its : List Value} {u : Tok} {Q : Value → Shared → Prop} (ht : IsTup s.heap t its.toArray) (hs : s.heap.IsSliceOf sl .none .none (.int (-1) u)) (hsz : its.length ≤ sizeLine)
    (h : Q (.ref s.heap.objs.size) { s with heap := s.heap.push { cls := .type "tuple", data := .seq its.reverse.toArray } }) : wpAny (model prog w) A (getItem (.ref t) (.ref sl)) Q E s := by
  have big : sizeOk (.seq its.reverse.toArray) := by
    show its.reverse.toArray.size ≤ sizeLine
    rw [List.size_toArray, List.length_reverse]; exact hsz
  obtain ⟨os, hos, hcs, hds⟩ := id hs
  have hTs : s.TypeIs (.ref sl) "slice" := ⟨os, hos, hcs⟩
  unfold getItem
  try with_reducible refine wpAny_holding ?_
  first | refine wpAny_bind (wpAny_pure ?_) | skip
  apply wpAny_bind
  apply wpAny_sequenceKey ht.typeIs (by decide)
  apply wpAny_bind
  apply wpAny_callSpecial?_slot (name := Str.ofString "__getitem__") ht.typeIs PyProof.Rows.slot_tuple_getitem
  refine wpAny_call_entry PyProof.Rows.slot_tuple_getitem ht.typeIs entry_tuple_getitem ?_ (args_tuple_getitem _ _)
  show wpAny _ _ (Builtin.Tuple.tupleItemsOf (.ref t) >>= _) _ _ s
  apply wpAny_bind
  apply tupleItemsOf_ ht
  apply wpAny_bind
  apply wpAny_typeOf hTs
  rw [if_pos (by decide)]
  apply wpAny_bind
  unfold Builtin.Slice.sliceApplied Builtin.Slice.sliceFields
  apply wpAny_bind
  refine wpAny_bind (wpAny_field hos hds (x := .none) rfl (wpAny_bind (wpAny_field hos hds (x := .none) rfl (wpAny_bind (wpAny_field hos hds (x := .int (-1) u) rfl (wpAny_pure ?_))))))
  apply wpAny_bind
  apply slicePart_int
  show wpAny _ _ (if ((-1 : Int) == 0) = true then _ else _) _ _ s
  rw [if_neg (by decide)]
  refine wpAny_bind (slicePart_none (wpAny_bind (slicePart_none (wpAny_bind (wpAny_pure ?_)))))
  show wpAny _ _ (match Builtin.Slice.sliceAdjust none none (-1) (its.toArray.size : Int) with | (lo, hi) => pure (lo, (-1 : Int), Builtin.Slice.slicePlaces lo hi (-1))) _ _ s
  have e1 : Builtin.Slice.sliceAdjust none none (-1) (its.toArray.size : Int) = ((its.length : Int) - 1, -1) := by
    unfold Builtin.Slice.sliceAdjust
    have h1 : ((-1 : Int) < 0) := by omega
    simp [h1]
  have e2 : Builtin.Slice.slicePlaces ((its.length : Int) - 1) (-1) (-1) = its.length := by
    unfold Builtin.Slice.slicePlaces
    simp
    split <;> omega
  rw [e1]
  show wpAny _ _ (pure ((its.length : Int) - 1, (-1 : Int), Builtin.Slice.slicePlaces ((its.length : Int) - 1) (-1) (-1))) _ _ s
  rw [e2]
  refine wpAny_pure ?_
  have no : ¬ ((((its.length : Int) - 1 == 0) && ((-1 : Int) == 1) && (its.length == its.toArray.size)) = true) := by
    have : ((-1 : Int) == 1) = false := by decide
    rw [this, Bool.and_false, Bool.false_and]
    exact Bool.false_ne_true
  show wpAny _ _ (if ((((its.length : Int) - 1 == 0) && ((-1 : Int) == 1) && (its.length == its.toArray.size)) = true) then _ else _) _ _ s
  rw [if_neg no, back_run]
  first
    | exact wpAny_bind (m := Builtin.Tuple.tupleExact _) (wpAny_newObj_type (wpAny_pure ⟨_, rfl, wpAny_pure h⟩) big)
    | exact wpAny_bind (m := Builtin.Tuple.tupleExact _) (wpAny_newObj_type (wpAny_bind (wpAny_pure (wpAny_pure ⟨_, rfl, wpAny_pure h⟩))) big)
    | exact wpAny_bind (wpAny_bind (m := Builtin.Tuple.tupleExact _) (wpAny_newObj_type (wpAny_pure (wpAny_pure ⟨_, rfl, wpAny_pure h⟩)) big))
    | exact wpAny_bind (wpAny_bind (m := Builtin.Tuple.tupleExact _) (wpAny_newObj_type (wpAny_pure ⟨_, rfl, wpAny_pure h⟩) big))
end
section
variable {X : Cx}
/-- t[::-1], t a tuple -/
def tRevT (te : TE) : TE := fun σ H Q => te σ H fun x H1 => ∃ a xs, x = .ref a ∧ H1 a = some (.tup xs) ∧ ∀ p, H1 p = none → Q (.ref p) (upd H1 p (.tup xs.reverse))
theorem pe_revT {e : Expr} {te : TE} {k : Nat} {p1 p2 p3 pos : Pos} (he : PE X e te) : PE X (.Subscript e (.Slice none none (some (.UnaryOp .USub (.Constant (.int 1) k p1) p2)) p3) pos) (tRevT te) := by
  constructor
  intro pins s σ H Q I h
  apply Subscript_
  apply thn (he.run pins s σ H _ I h)
  rintro v s1 ⟨x, H1, I1, r1, a, xs, rfl, hx, q⟩
  cases r1
  have part : PO X (some (.UnaryOp .USub (.Constant (.int 1) k p1) p2)) (tPart (tUn (rU fun i => .int (-i)) (tC (.int 1)))) := po_some (pe_un un_neg pe_int)
  apply wpAny_Slice
  apply thn (po_none.run pins s1 σ H1 (fun o H2 => o = none ∧ H2 = H1) I1 ⟨rfl, rfl⟩)
  rintro vl s2 ⟨l, H2, I2, pl, rfl, rfl⟩
  apply thn (po_none.run pins s2 σ H2 (fun o H3 => o = none ∧ H3 = H2) I2 ⟨rfl, rfl⟩)
  rintro vu s3 ⟨u, H3, I3, pu, rfl, rfl⟩
  apply thn (part.run pins s3 σ H3 (fun o H4 => o = some (-1) ∧ H4 = H3) I3 ⟨1, rfl, -1, rfl, rfl, rfl⟩)
  rintro vs s4 ⟨o, H4, I4, ps, rfl, rfl⟩
  cases pl
  cases pu
  cases ps with
  | int _ tk =>
  have I5 : Inv X pins σ H4 { s4 with heap := s4.heap.push { cls := .type "slice", data := .fields #[.none, .none, .int (-1) tk] } } := I4.kept (t' := s4.toks) fun b ob z => Heap.get?_push_of_some _ z
  obtain ⟨hz, its, r, ht⟩ := I5.hok a _ hx
  have hl := r.length
  show wpAny (model X.prog X.w) X.A (subscriptTail e (.Slice none none (some (.UnaryOp .USub (.Constant (.int 1) k p1) p2)) p3) (.ref a) (.ref s4.heap.objs.size)) (EP X pins σ Q) X.xe { s4 with heap := s4.heap.push { cls := .type "slice", data := .fields #[.none, .none, .int (-1) tk] } }
  apply tail_any (ops := [.ref a, .ref s4.heap.objs.size]) (IsTup.typeIs ht) PyProof.Rows.slot_tuple_getitem.lookup _ (by with_unfolding_all rfl)
  apply getItem_tuple_back ht (Heap.IsSliceOf.new _ .none .none (.int (-1) tk)) (by omega)
  refine ⟨.ref _, _, I5.laid (t' := s4.toks) (o := .tup xs.reverse) (fun b ob z => Heap.get?_push_of_some _ z) (Nat.le_refl _) ?_, rfl, q _ (I5.hok.fresh (Nat.le_refl _))⟩
  exact ⟨by rw [List.length_reverse]; exact hz, _, r.reverse, ⟨_, Heap.get?_push_size _ rfl, rfl, _, rfl⟩⟩
/-- a list display, whose place is not the table of modules -/
def tLstS (t : TA) : TE := fun σ H Q => t σ H fun xs H1 => xs.length ≤ sizeLine ∧ ∀ p, H1 p = none → p ≠ sysModules → Q (.ref p) (upd H1 p (.lst xs))
theorem pe_lstS {es : List Expr} {t : TA} {pos : Pos} (h : PA X es t) : PE X (.List es pos) (tLstS t) := by
  constructor
  intro pins s σ H Q I hq
  apply wpAny_List_spliced
  apply thn (h.run pos pins s σ H _ I hq)
  rintro us s1 ⟨xs, H1, I1, r, z, q⟩
  refine ⟨by rw [← r.length]; exact z, ?_⟩
  refine ⟨.ref s1.heap.objs.size, upd H1 s1.heap.objs.size (.lst xs), I1.laid (t' := s1.toks) (fun b u e => Heap.get?_push_of_some _ e) (Nat.le_refl _) ?_, rfl, q _ (I1.hok.fresh (Nat.le_refl _)) (Nat.ne_of_gt I1.big)⟩
  exact ⟨z, us, 0, r, Heap.get?_push_size _ rfl⟩
end
end G

namespace G
open PySem PySem.Spec PyProof.Rows L2

/-! ### data apart from some addresses -/
open Classical in
noncomputable def mask (N : Addr → Prop) (H : Hp) : Hp := fun b => if N b then none else H b
theorem mask_out {N : Addr → Prop} {H : Hp} {b : Addr} (h : ¬ N b) : mask N H b = H b := by unfold mask; rw [if_neg h]
theorem mask_in {N : Addr → Prop} {H : Hp} {b : Addr} (h : N b) : mask N H b = none := by unfold mask; rw [if_pos h]
theorem mask_some {N : Addr → Prop} {H : Hp} {b : Addr} {o : HO} (h : mask N H b = some o) : ¬ N b ∧ H b = some o := by
  by_cases e : N b
  · rw [mask_in e] at h; cases h
  · rw [mask_out e] at h; exact ⟨e, h⟩
theorem mask_le (N : Addr → Prop) (H : Hp) : Same (mask N H) H := fun b o h => (mask_some h).2
theorem mask_mono {N : Addr → Prop} {H H' : Hp} (S : Same H H') : Same (mask N H) (mask N H') := fun b o h => by
  rw [mask_out (mask_some h).1]; exact S b o (mask_some h).2
theorem mask_less {N M : Addr → Prop} {H : Hp} (h : ∀ b, M b → N b) : Same (mask N H) (mask M H) := fun b o e => by
  rw [mask_out fun z => (mask_some e).1 (h b z)]; exact (mask_some e).2
theorem same_new {H : Hp} {q : Addr} {o : HO} (h : H q = none) : Same H (upd H q o) := fun b u e => by rw [upd_ne (ne_of_none e h)]; exact e

def Is (N : Addr → Prop) (H : Hp) (G : PyData → Prop) (v : V) : Prop := ∃ d, Da (mask N H) v d ∧ G d
theorem Is.same {N : Addr → Prop} {H H' : Hp} {G : PyData → Prop} {v : V} (S : Same H H') (h : Is N H G v) : Is N H' G v := let ⟨d, a, g⟩ := h; ⟨d, a.same (mask_mono S), g⟩
theorem Is.less {N M : Addr → Prop} {H : Hp} {G : PyData → Prop} {v : V} (h : ∀ b, M b → N b) (x : Is N H G v) : Is M H G v := let ⟨d, a, g⟩ := x; ⟨d, a.same (mask_less h), g⟩
theorem Is.imp {N : Addr → Prop} {H : Hp} {G G' : PyData → Prop} {v : V} (h : ∀ d, G d → G' d) (x : Is N H G v) : Is N H G' v := let ⟨d, a, g⟩ := x; ⟨d, a, h d g⟩
theorem is_int {N : Addr → Prop} {H : Hp} {G : PyData → Prop} {i : Int} (g : G (.int i)) : Is N H G (.int i) := ⟨_, .int i, g⟩
theorem is_str {N : Addr → Prop} {H : Hp} {G : PyData → Prop} {x : Str} (g : G (.str x)) : Is N H G (.str x) := ⟨_, .str x, g⟩
theorem is_bl {N : Addr → Prop} {H : Hp} {G : PyData → Prop} {b : Bool} (g : G (.bool b)) : Is N H G (.bl b) := ⟨_, .bl b, g⟩
theorem is_non {N : Addr → Prop} {H : Hp} {G : PyData → Prop} (g : G .none) : Is N H G .non := ⟨_, .non, g⟩
theorem daAll_of {N : Addr → Prop} {H : Hp} {G : PyData → Prop} : ∀ {xs : List V}, (∀ x ∈ xs, Is N H G x) → ∃ ds, DaAll (mask N H) xs ds ∧ ds.length = xs.length ∧ ∀ d ∈ ds, G d
  | [], _ => ⟨[], .nil, rfl, fun _ h => nomatch h⟩
  | x :: xs, h => by
    obtain ⟨d, a, g⟩ := h x (List.mem_cons_self ..)
    obtain ⟨ds, b, l, gs⟩ := daAll_of (xs := xs) fun y hy => h y (List.mem_cons_of_mem _ hy)
    refine ⟨d :: ds, .cons a b, by rw [List.length_cons, List.length_cons, l], fun y hy => ?_⟩
    rcases List.mem_cons.mp hy with e | hy
    · rw [e]; exact g
    · exact gs y hy
theorem is_of_daAll {N : Addr → Prop} {H : Hp} {G : PyData → Prop} : ∀ {xs : List V} {ds : List PyData}, DaAll (mask N H) xs ds → (∀ d ∈ ds, G d) → ∀ x ∈ xs, Is N H G x
  | _, _, .nil, _, _, h => nomatch h
  | _, _, .cons (d := d) a b, g, x, h => by
    rcases List.mem_cons.mp h with e | h
    · rw [e]; exact ⟨d, a, g d (List.mem_cons_self ..)⟩
    · exact is_of_daAll b (fun y hy => g y (List.mem_cons_of_mem _ hy)) x h
theorem is_tup {N : Addr → Prop} {H : Hp} {G G' : PyData → Prop} {a : Addr} {xs : List V} (hN : ¬ N a) (ha : H a = some (.tup xs)) (hx : ∀ x ∈ xs, Is N H G' x) (g : ∀ ds : List PyData, ds.length = xs.length → (∀ d ∈ ds, G' d) → G (.tuple ds)) : Is N H G (.ref a) := by
  obtain ⟨ds, b, l, gs⟩ := daAll_of hx
  exact ⟨_, .tup (by rw [mask_out hN]; exact ha) b, g ds l gs⟩
theorem is_lst {N : Addr → Prop} {H : Hp} {G G' : PyData → Prop} {a : Addr} {xs : List V} (hN : ¬ N a) (ha : H a = some (.lst xs)) (hs : a ≠ sysModules) (hx : ∀ x ∈ xs, Is N H G' x) (g : ∀ ds : List PyData, ds.length = xs.length → (∀ d ∈ ds, G' d) → G (.list ds)) : Is N H G (.ref a) := by
  obtain ⟨ds, b, l, gs⟩ := daAll_of hx
  exact ⟨_, .lst (by rw [mask_out hN]; exact ha) hs b, g ds l gs⟩

/-! ### what evaluates to good data, leaving all that is tracked as it is -/
def EvG (N : Addr → Prop) (te : TE) (σ : L2.St) (H : Hp) (G : PyData → Prop) : Prop := ∀ H1, Same H H1 → ∀ Q : VK, (∀ v H2, Same H1 H2 → Is N H2 G v → Q v H2) → te σ H1 Q
def EvGA (N : Addr → Prop) (ta : TA) (σ : L2.St) (H : Hp) (G : PyData → Prop) (m : Nat) : Prop :=
  ∀ H1, Same H H1 → ∀ Q : List V → Hp → Prop, (∀ vs H2, Same H1 H2 → vs.length = m → (∀ x ∈ vs, Is N H2 G x) → Q vs H2) → ta σ H1 Q
section
variable {N : Addr → Prop} {σ : L2.St} {H : Hp} {G G' : PyData → Prop} {te : TE} {ta : TA} {m : Nat}
/-- only what is tracked is set apart -/
def Tr (N : Addr → Prop) (H : Hp) : Prop := ∀ b, N b → H b ≠ none
theorem Tr.same {H' : Hp} (t : Tr N H) (S : Same H H') : Tr N H' := fun b h => by
  cases e : H b with
  | none => exact absurd e (t b h)
  | some o => rw [S b o e]; simp
theorem Tr.new {q : Addr} (t : Tr N H) (h : H q = none) : ¬ N q := fun z => t q z h
theorem EvG.mono {H' : Hp} (S : Same H H') (h : EvG N te σ H G) : EvG N te σ H' G := fun H1 S1 Q q => h H1 (S.trans S1) Q q
theorem EvGA.mono {H' : Hp} (S : Same H H') (h : EvGA N ta σ H G m) : EvGA N ta σ H' G m := fun H1 S1 Q q => h H1 (S.trans S1) Q q
theorem evg_is {v : V} (h : ∀ H', Is N H' G v) : EvG N (tC v) σ H G := fun H1 _ Q q => q v H1 (Same.refl _) (h H1)
theorem evg_int {i : Int} (g : G (.int i)) : EvG N (tC (.int i)) σ H G := evg_is fun _ => is_int g
theorem evg_str {x : Str} (g : G (.str x)) : EvG N (tC (.str x)) σ H G := evg_is fun _ => is_str g
theorem evg_bl {b : Bool} (g : G (.bool b)) : EvG N (tC (.bl b)) σ H G := evg_is fun _ => is_bl g
theorem evg_non (g : G .none) : EvG N (tC .non) σ H G := evg_is fun _ => is_non g
theorem evg_neg {i : Int} (g : G (.int (-i))) : EvG N (tUn (rU fun i => .int (-i)) (tC (.int i))) σ H G := fun H1 _ Q q => ⟨i, rfl, q _ H1 (Same.refl _) (is_int g)⟩
theorem evg_pow {i j : Int} (c : CPowW i j) (g : G (.int (i ^ j.toNat))) : EvG N (tOp (rI CPowW fun i j => .int (i ^ j.toNat)) (tC (.int i)) (tC (.int j))) σ H G :=
  fun H1 _ Q q => ⟨i, j, rfl, rfl, c, q _ H1 (Same.refl _) (is_int g)⟩
theorem evg_var {i : Nat} {v : V} (h : σ[i]? = some (some v)) (x : Is N H G v) : EvG N (tVar i) σ H G := fun H1 S Q q => ⟨v, h, q v H1 (Same.refl _) (x.same S)⟩
theorem eva_nil : EvGA N tNil σ H G 0 := fun H1 _ Q q => q [] H1 (Same.refl _) rfl fun _ h => nomatch h
theorem eva_cons {tr : TA} (h : EvG N te σ H G) (hr : EvGA N tr σ H G m) : EvGA N (tCons te tr) σ H G (m + 1) := fun H1 S Q q =>
  h H1 S _ fun v H2 S2 x => hr H2 (S.trans S2) _ fun vs H3 S3 l xs => q (v :: vs) H3 (S2.trans S3) (by rw [List.length_cons, l]) fun y hy => by
    rcases List.mem_cons.mp hy with e | hy
    · rw [e]; exact x.same S3
    · exact xs y hy
theorem evg_tup (t : Tr N H) (h : EvGA N ta σ H G' m) (hm : m ≤ 1000) (g : ∀ ds : List PyData, ds.length = m → (∀ d ∈ ds, G' d) → G (.tuple ds)) : EvG N (tTup ta) σ H G := fun H1 S Q q =>
  h H1 S _ fun vs H2 S2 l xs => ⟨by rw [l, sizeLine_eq]; omega, fun p hp => q (.ref p) _ (S2.trans (same_new hp))
    (is_tup (((t.same S).same S2).new hp) upd_same (fun x hx => (xs x hx).same (same_new hp)) fun ds e => g ds (e.trans l))⟩
theorem evg_lst (t : Tr N H) (h : EvGA N ta σ H G' m) (hm : m ≤ 1000) (g : ∀ ds : List PyData, ds.length = m → (∀ d ∈ ds, G' d) → G (.list ds)) : EvG N (tLstS ta) σ H G := fun H1 S Q q =>
  h H1 S _ fun vs H2 S2 l xs => ⟨by rw [l, sizeLine_eq]; omega, fun p hp hs => q (.ref p) _ (S2.trans (same_new hp))
    (is_lst (((t.same S).same S2).new hp) upd_same hs (fun x hx => (xs x hx).same (same_new hp)) fun ds e => g ds (e.trans l))⟩
theorem evg_dnew (t : Tr N H) (g : G (.dict [])) : EvG N tDNewK σ H G := fun H1 S Q q p hp => q (.ref p) _ (same_new hp)
  ⟨_, .dct (kvs := []) (ds := []) (by rw [mask_out ((t.same S).new hp)]; exact upd_same) .nil, g⟩
/-- {'k': e} -/
theorem evg_dict1 {x : Str} (t : Tr N H) (h : ∀ q H1, Same H H1 → EvG (fun b => N b ∨ b = q) te σ H1 G') (g : ∀ d, G' d → G (.dict [(.str x, d)])) : EvG N (tDisp [(tC (.str x), te)]) σ H G := fun H1 S Q q p hp => by
  refine h p _ (S.trans (same_new hp)) _ (Same.refl _) _ fun v H2 S2 ⟨d, a, gd⟩ => ?_
  have e2 : H2 p = some (.dK []) := S2 _ _ upd_same
  refine ⟨e2, [(Sum.inr x, v)], rfl, by show 1 ≤ 15; decide, ?_⟩
  have keep : Same H1 (upd H2 p (.dK (mergeK [] [(Sum.inr x, v)]))) := fun b o e => by
    rw [upd_ne (ne_of_none e hp)]
    exact S2 b o (by rw [upd_ne (ne_of_none e hp)]; exact e)
  refine q (.ref p) _ keep ⟨_, .dct (kvs := [(Sum.inr x, v)]) (ds := [d]) (by rw [mask_out ((t.same S).new hp)]; exact upd_same) (.cons (a.same ?_) .nil), g d gd⟩
  intro b o e
  obtain ⟨nb, eb⟩ := mask_some e
  have n1 : ¬ N b := fun z => nb (Or.inl z)
  have n2 : b ≠ p := fun z => nb (Or.inr z)
  rw [mask_out n1, upd_ne n2]
  exact eb
/-- a new list of good data, where it is -/
theorem eva_list (t : Tr N H) (h : EvGA N ta σ H G m) (hm : m ≤ 1000) {Q : VK} (q : ∀ l xs H2, Same H H2 → H l = none → H2 l = some (.lst xs) → l ≠ sysModules → xs.length = m → (∀ x ∈ xs, Is N H2 G x) → Q (.ref l) H2) : tLstS ta σ H Q :=
  h H (Same.refl _) _ fun vs H2 S2 l xs => ⟨by rw [l, sizeLine_eq]; omega, fun p hp hs => q p vs _ (S2.trans (same_new hp)) (Same.free S2 hp) upd_same hs l fun x hx => (xs x hx).same (same_new hp)⟩
end
end G

namespace G
open PySem PySem.Spec PyProof.Rows L2
section
variable {X : Cx}
/-- list(t), t a tuple: the new list is not the table of modules -/
def rListT : List V → Hp → VK → Prop := fun xs H Q => ∃ p ys, xs = [.ref p] ∧ H p = some (.tup ys) ∧ ∀ l, H l = none → l ≠ sysModules → Q (.ref l) (upd H l (.lst ys))
theorem call_listT : CallR X (.type "list") rListT := by
  intro pins s σ H xs us Q I r h
  obtain ⟨p, ys, rfl, hp, q⟩ := h
  obtain ⟨u, rfl, rx⟩ := vals1 r
  cases rx
  obtain ⟨its, r', ⟨o, ho, hc, n, hd⟩, hz⟩ := I.tuple (SqT.of hp)
  have hlen := r'.length
  refine call_list_seq p (.inr rfl) ho hc hd (fun h' c' kp e => ?_) (by simp only [List.size_toArray] <;> omega)
  refine ⟨.ref s.heap.objs.size, _, I.laid (t' := s.toks) kp (Nat.le_refl _) (o := .lst ys) ⟨hz, its, c', r', e⟩, rfl, q _ (I.hok.fresh (Nat.le_refl _)) (Nat.ne_of_gt I.big)⟩
end

section
variable {K : PySem.W.Frag} {N : Addr → Prop} {σ : L2.St} {H : Hp} {G G' : PyData → Prop} {te tf : TE} {tl th : TO} {m : Nat}
/-! ### tuples: parts, sums, the other way about -/
theorem cutV_mem {xs : List V} {lo hi : Option Int} {x : V} (h : x ∈ cutV xs lo hi) : x ∈ xs := List.mem_of_mem_drop (List.mem_of_mem_take h)
theorem slA_any {a : Addr} {xs : List V} {lo hi : Option Int} {Q : VK} (ha : H a = some (.tup xs)) (q : ∀ b ys H1, Same H H1 → H1 b = some (.tup ys) → (b = a ∨ H b = none) → (∀ y ∈ ys, y ∈ xs) → ys.length ≤ xs.length → Q (.ref b) H1) : rSlA K (.ref a) lo hi H Q :=
  ⟨a, xs, rfl, SqT.of ha, fun _ => q a xs H (Same.refl _) ha (.inl rfl) (fun _ h => h) (Nat.le_refl _), fun _ p hp => q p _ _ (same_new hp) upd_same (.inr hp) (fun _ h => cutV_mem h) (cutV_length _ _ _)⟩
theorem catA_any {a b : Addr} {xs ys : List V} {Q : VK} (ha : H a = some (.tup xs)) (hb : H b = some (.tup ys)) (hz : xs.length + ys.length ≤ 100000)
    (q : ∀ c H1, Same H H1 → H1 c = some (.tup (xs ++ ys)) → (c = a ∨ c = b ∨ H c = none) → Q (.ref c) H1) : rCatA K (.ref a) (.ref b) H Q := by
  refine ⟨a, b, xs, ys, rfl, rfl, SqT.of ha, SqT.of hb, by rw [sizeLine_eq]; omega, fun e => ?_, fun e1 e2 => ?_, fun e1 e2 p hp => ?_⟩
  · exact q b H (Same.refl _) (by rw [e]; exact hb) (.inr (.inl rfl))
  · exact q a H (Same.refl _) (by rw [e2, List.append_nil]; exact ha) (.inl rfl)
  · exact q p _ (same_new hp) upd_same (.inr (.inr hp))
/-- a tuple of good data, outside of N -/
def IsT (N : Addr → Prop) (H : Hp) (G : PyData → Prop) (m : Nat) (v : V) : Prop := ∃ a xs, v = .ref a ∧ ¬ N a ∧ H a = some (.tup xs) ∧ xs.length ≤ m ∧ ∀ x ∈ xs, Is N H G x
theorem IsT.same {H' : Hp} {v : V} (S : Same H H') (h : IsT N H G m v) : IsT N H' G m v := by
  obtain ⟨a, xs, rfl, n, e, l, x⟩ := h
  exact ⟨a, xs, rfl, n, S _ _ e, l, fun y hy => (x y hy).same S⟩
theorem IsT.is {v : V} (h : IsT N H G' m v) (g : ∀ ds : List PyData, ds.length ≤ m → (∀ d ∈ ds, G' d) → G (.tuple ds)) : Is N H G v := by
  obtain ⟨a, xs, rfl, n, e, l, x⟩ := h
  exact is_tup n e x fun ds e2 => g ds (by omega)
def EvT (N : Addr → Prop) (te : TE) (σ : L2.St) (H : Hp) (G : PyData → Prop) (m : Nat) : Prop := ∀ H1, Same H H1 → ∀ Q : VK, (∀ v H2, Same H1 H2 → IsT N H2 G m v → Q v H2) → te σ H1 Q
/-- an optional part of a slice that is an int -/
def EvO (to : TO) (σ : L2.St) : Prop := ∀ (H1 : Hp) (Q : Option Int → Hp → Prop), (∀ o, Q o H1) → to σ H1 Q
theorem evo_none : EvO tNoPart σ := fun H1 Q q => q _
theorem evo_int {i : Int} : EvO (tPart (tC (.int i))) σ := fun H1 Q q => ⟨i, rfl, q _⟩
theorem evo_neg {i : Int} : EvO (tPart (tUn (rU fun i => .int (-i)) (tC (.int i)))) σ := fun H1 Q q => ⟨i, rfl, _, rfl, q _⟩
theorem evo_var {i : Nat} {j : Int} (h : σ[i]? = some (some (.int j))) : EvO (tPart (tVar i)) σ := fun H1 Q q => ⟨_, h, _, rfl, q _⟩
theorem evo_add {i : Nat} {j k : Int} (h : σ[i]? = some (some (.int j))) : EvO (tPart (tOp (rI0 fun i j => .int (i + j)) (tVar i) (tC (.int k)))) σ := fun H1 Q q => ⟨_, h, _, _, rfl, rfl, _, rfl, q _⟩
theorem EvT.g (h : EvT N te σ H G' m) (g : ∀ ds : List PyData, ds.length ≤ m → (∀ d ∈ ds, G' d) → G (.tuple ds)) : EvG N te σ H G := fun H1 S Q q => h H1 S Q fun v H2 S2 x => q v H2 S2 (x.is g)
theorem evt_var {i : Nat} {v : V} (h : σ[i]? = some (some v)) (x : IsT N H G m v) : EvT N (tVar i) σ H G m := fun H1 S Q q => ⟨v, h, q v H1 (Same.refl _) (x.same S)⟩
theorem evt_tup {ta : TA} (t : Tr N H) (h : EvGA N ta σ H G m) (hm : m ≤ 1000) : EvT N (tTup ta) σ H G m := fun H1 S Q q =>
  h H1 S _ fun vs H2 S2 l xs => ⟨by rw [l, sizeLine_eq]; omega, fun p hp => q (.ref p) _ (S2.trans (same_new hp)) ⟨p, vs, rfl, ((t.same S).same S2).new hp, upd_same, Nat.le_of_eq l, fun x hx => (xs x hx).same (same_new hp)⟩⟩
theorem evt_sl (t : Tr N H) (h : EvT N te σ H G m) (hl : EvO tl σ) (hh : EvO th σ) : EvT N (tSl (rSlA K) te tl th) σ H G m := fun H1 S Q q =>
  h H1 S _ fun v H2 S2 ⟨a, xs, ev, n, e, l, x⟩ => by
    subst ev
    refine hl H2 _ fun lo => hh H2 _ fun hi => slA_any e fun b ys H3 S3 e3 w sub l3 => ?_
    refine q _ H3 (S2.trans S3) ⟨b, ys, rfl, ?_, e3, by omega, fun y hy => (x y (sub y hy)).same S3⟩
    rcases w with w | w
    · rw [w]; exact n
    · exact ((t.same S).same S2).new w
theorem evt_cat {k : Nat} (t : Tr N H) (h : EvT N te σ H G m) (h2 : EvT N tf σ H G k) (hz : m + k ≤ 1000) : EvT N (tOp (rCatA K) te tf) σ H G (m + k) := fun H1 S Q q =>
  h H1 S _ fun v H2 S2 ⟨a, xs, ev, n, e, l, x⟩ => by
    subst ev
    refine h2 H2 (S.trans S2) _ fun w H3 S3 ⟨b, ys, ew, n3, e3, l3, x3⟩ => ?_
    subst ew
    refine catA_any (S3 _ _ e) e3 (by omega) fun c H4 S4 e4 wh => q _ H4 ((S2.trans S3).trans S4) ⟨c, _, rfl, ?_, e4, by rw [List.length_append]; omega, fun y hy => ?_⟩
    · rcases wh with z | z | z
      · rw [z]; exact n
      · rw [z]; exact n3
      · exact (((t.same S).same S2).same S3).new z
    · rcases List.mem_append.mp hy with z | z
      · exact ((x y z).same S3).same S4
      · exact (x3 y z).same S4
theorem evt_rev (t : Tr N H) (h : EvT N te σ H G m) : EvT N (tRevT te) σ H G m := fun H1 S Q q =>
  h H1 S _ fun v H2 S2 ⟨a, xs, ev, n, e, l, x⟩ => ⟨a, xs, ev, e, fun p hp => q _ _ (S2.trans (same_new hp)) ⟨p, _, rfl, ((t.same S).same S2).new hp, upd_same, by rw [List.length_reverse]; exact l, fun y hy => (x y (List.mem_reverse.mp hy)).same (same_new hp)⟩⟩
/-- list(t) -/
theorem evg_listT (t : Tr N H) (h : EvT N te σ H G' m) (g : ∀ ds : List PyData, ds.length ≤ m → (∀ d ∈ ds, G' d) → G (.list ds)) : EvG N (tCB rListT (tCons te tNil)) σ H G := fun H1 S Q q =>
  h H1 S _ fun v H2 S2 ⟨a, xs, ev, n, e, l, x⟩ => ⟨a, xs, by rw [ev], e, fun p hp hs => q _ _ (S2.trans (same_new hp))
    (is_lst (((t.same S).same S2).new hp) upd_same hs (fun y hy => (x y hy).same (same_new hp)) fun ds e2 => g ds (by omega))⟩
/-- a value by itself: what a reading leads to, for sure, the heap as it is -/
theorem evg_to {v : V} (h : ∀ (H1 : Hp) (Q : VK), Q v H1 → te σ H1 Q) (x : ∀ H', Is N H' G v) : EvG N te σ H G := fun H1 _ Q q => h H1 Q (q v H1 (Same.refl _) (x H1))
end
/-! data without dicts, for comparisons -/
mutual
theorem Da.dp {K : PySem.W.Frag} {H : Hp} : ∀ {v : V} {d : PyData}, Da H v d → d.canLay0 = true → Dp K H v d
  | _, _, .non, _ => .non
  | _, _, .bl b, _ => .bl b
  | _, _, .int i, _ => .int i
  | _, _, .str x, _ => .str x
  | _, _, .lst e _ t, h => .lst (SqL.of e) (DaAll.dp t (by simpa [PyData.canLay0] using h))
  | _, _, .tup e t, h => .tup (SqT.of e) (DaAll.dp t (by simpa [PyData.canLay0] using h))
  | _, _, .dct e t, h => by simp [PyData.canLay0] at h
theorem DaAll.dp {K : PySem.W.Frag} {H : Hp} : ∀ {vs : List V} {ds : List PyData}, DaAll H vs ds → PyData.canLayAll0 ds = true → DpAll K H vs ds
  | _, _, .nil, _ => .nil
  | _, _, .cons h t, e => by
    simp only [PyData.canLayAll0, Bool.and_eq_true] at e
    exact .cons (Da.dp h e.1) (DaAll.dp t e.2)
end
end G
namespace G
open PySem PySem.Spec PyProof.Rows L2
theorem s_set {te : TE} {i : Nat} {u : TS} {D : Ends} {σ : L2.St} {H : Hp} (h : te σ H fun x H1 => u D (σ.set i (some x)) H1) : tSeq (tAsg te (gName i)) u D σ H := h
theorem s_ret {te : TE} {D : Ends} {σ : L2.St} {H : Hp} (h : te σ H D.rt) : tRet te D σ H := h
theorem s_seq {t u : TS} {D : Ends} {σ : L2.St} {H : Hp} (h : t { D with nx := u D } σ H) : tSeq t u D σ H := h
theorem s_if {c : TT} {t u : TS} {D : Ends} {σ : L2.St} {H : Hp} (h : c σ H fun b H1 => if b = true then t D σ H1 else u D σ H1) : tIfS c t u D σ H := h
end G
namespace G
open PySem PySem.Spec PyProof.Rows L2
theorem t_op {r : R2} {ta tb : TE} {σ : L2.St} {H : Hp} {Q : VK} (h : ta σ H fun x H1 => tb σ H1 fun y H2 => r x y H2 Q) : tOp r ta tb σ H Q := h
theorem t_cons {ta : TE} {tr : TA} {σ : L2.St} {H : Hp} {Q : List V → Hp → Prop} (h : ta σ H fun x H1 => tr σ H1 fun xs H2 => Q (x :: xs) H2) : tCons ta tr σ H Q := h
end G

namespace G
open PySem PySem.Spec PyProof.Rows L2
/-! ### lists that are put together, with a word about their items -/
def EvP (ta : TA) (σ : L2.St) (H : Hp) (P : Hp → List V → Prop) (m : Nat) : Prop := ∀ H1, Same H H1 → ∀ Q : List V → Hp → Prop, (∀ vs H2, Same H1 H2 → vs.length = m → P H2 vs → Q vs H2) → ta σ H1 Q
def Stays (P : Hp → List V → Prop) : Prop := ∀ H H' vs, Same H H' → P H vs → P H' vs
section
variable {σ : L2.St} {H : Hp} {P P0 P1 : Hp → List V → Prop} {te : TE} {ta : TA} {m : Nat} {Q : VK}
theorem lstP (h : EvP ta σ H P m) (hm : m ≤ 1000) (st : Stays P) (k : ∀ p vs H', Same H H' → H p = none → H' p = some (.lst vs) → vs.length = m → P H' vs → Q (.ref p) H') : tLstS ta σ H Q :=
  h H (Same.refl _) _ fun vs H2 S2 l p => ⟨by rw [l, sizeLine_eq]; omega, fun a ha hs => k a vs _ (S2.trans (same_new ha)) (Same.free S2 ha) upd_same l (st _ _ _ (same_new ha) p)⟩
theorem catP {i : Nat} {l : Addr} {xs : List V} {n : Nat} (hσ : σ[i]? = some (some (.ref l))) (hl : H l = some (.lst xs)) (p0 : P0 H xs) (st0 : Stays P0) (hn : xs.length = n) (h : EvP ta σ H P1 m) (st1 : Stays P1) (hm : n + m ≤ 1000)
    (both : ∀ H xs ys, P0 H xs → P1 H ys → P H (xs ++ ys)) (st : Stays P) (k : ∀ p vs H', Same H H' → H p = none → H' p = some (.lst vs) → vs.length = n + m → P H' vs → Q (.ref p) H') : tOp rCat (tVar i) (tLstS ta) σ H Q := by
  refine ⟨_, hσ, lstP h (by omega) st1 fun p ys H1 S1 np hp ly py => ?_⟩
  refine ⟨_, _, _, _, rfl, rfl, S1 _ _ hl, hp, by rw [hn, ly, sizeLine_eq]; omega, fun q nq => ?_⟩
  exact k q _ _ (S1.trans (same_new nq)) (Same.free S1 nq) upd_same (by rw [List.length_append, hn, ly]) (st _ _ _ (same_new nq) (both _ _ _ (st0 _ _ _ S1 p0) py))
/-- truth values -/
def Bls (bs : List Bool) : Hp → List V → Prop := fun _ vs => vs = bs.map V.bl
theorem bls_stays (bs : List Bool) : Stays (Bls bs) := fun _ _ _ _ h => h
theorem evb_nil : EvP tNil σ H (Bls []) 0 := fun H1 _ Q q => q [] H1 (Same.refl _) rfl rfl
theorem evb_is {K : PySem.W.Frag} {e C Ci : Addr} {v : V} {b : Bool} {bs : List Bool} {i : Nat} (hσ : σ[i]? = some (some (.ref e))) (T : EC K C) (he : ErrAt H e C v) (hk : PySem.W.kitOne K (.ref C) (.ref Ci) = some b) (hr : EvP ta σ H (Bls bs) m) :
    EvP (tCons (tCB (fun xs H Q => ∃ (a C : Addr) (v c : V) (u : Value) (b : Bool), xs = [.ref a, c] ∧ ClsV c u ∧ EC K C ∧ ErrAt H a C v ∧ PySem.W.kitOne K (.ref C) u = some b ∧ Q (.bl b) H) (tCons (tVar i) (tCons (tC (.ref Ci)) tNil))) ta) σ H (Bls (b :: bs)) (m + 1) :=
  fun H1 S Q q => ⟨_, hσ, e, C, v, _, _, b, rfl, .own Ci, T, he.same S, hk, hr H1 S _ fun vs H2 S2 l p => q _ H2 S2 (by rw [List.length_cons, l]) (by rw [p]; rfl)⟩
theorem bls_app {bs cs : List Bool} : ∀ (H : Hp) (xs ys : List V), Bls bs H xs → Bls cs H ys → Bls (bs ++ cs) H (xs ++ ys) := fun _ xs ys h1 h2 => by rw [h1, h2]; exact (List.map_append).symm
/-- errors that keep v, one of each class -/
def Ers (v : V) (Cs : List Addr) : Hp → List V → Prop := fun H vs => Paired (fun x C => ∃ e, x = .ref e ∧ ErrAt H e C v) vs Cs
theorem ers_stays (v : V) (Cs : List Addr) : Stays (Ers v Cs) := fun _ _ _ S h => Paired.mapP h fun _ _ ⟨e, x, y⟩ => ⟨e, x, y.same S⟩
theorem eve_nil {v : V} : EvP tNil σ H (Ers v []) 0 := fun H1 _ Q q => q [] H1 (Same.refl _) rfl .nil
theorem eve_is {C : Addr} {v : V} {Cs : List Addr} {i : Nat} (hσ : σ[i]? = some (some v)) (hr : EvP ta σ H (Ers v Cs) m) : EvP (tCons (tErr C (tCons (tVar i) tNil)) ta) σ H (Ers v (C :: Cs)) (m + 1) :=
  fun H1 S Q q => ⟨_, hσ, v, rfl, fun a H2 na S2 ea => hr H2 (S.trans S2) _ fun vs H3 S3 l p => q _ H3 (S2.trans S3) (by rw [List.length_cons, l]) (.cons ⟨a, rfl, ea.same S3⟩ p)⟩
theorem ers_app {v : V} {Bs Cs : List Addr} : ∀ (H : Hp) (xs ys : List V), Ers v Bs H xs → Ers v Cs H ys → Ers v (Bs ++ Cs) H (xs ++ ys) := fun H xs ys h1 h2 => by
  induction h1 with
  | nil => exact h2
  | cons h _ ih => exact .cons h ih
theorem ers_get {v : V} : ∀ {Cs : List Addr} {H : Hp} {vs : List V} {i : Nat} {x : V}, Ers v Cs H vs → vs[i]? = some x → ∃ e, x = .ref e ∧ ErrAt H e (Cs.getD i 0) v
  | _, _, _, _, _, .nil, h => by simp at h
  | _, _, _, 0, _, .cons h _, e => by obtain rfl := Option.some.inj e; exact h
  | _, _, _, i + 1, _, .cons _ t, e => ers_get (i := i) t e
end
end G
namespace G
open PySem PySem.Spec PyProof.Rows L2
/-- the written part's look at an error's class -/
def ecB (K : PySem.W.Frag) (fI C : Addr) : Bool :=
  decide (PySem.W.findIn K (.ref C) "__setattr__" = some (some (.builtin "object.__setattr__"))) &&
  (decide (PySem.W.subIn K (.ref C) (.type "BaseException") = some true) &&
  (decide (PySem.W.typeIn K (.ref C) = some (.type "type")) &&
  (PySem.W.keepIn K (.ref C) &&
  (PySem.W.hasDictIn K C &&
  (decide (PySem.W.findIn K (.ref C) "__getattribute__" = some (some (.builtin "BaseException.__getattribute__"))) &&
  (decide (PySem.W.findIn K (.ref C) "__getattr__" = some none) &&
  (decide (PySem.W.findIn K (.ref C) "value" = some none) &&
  (decide (PySem.W.findIn K (.ref C) "__class__" = some (some (.builtin "object.__class__"))) &&
  (decide (PySem.W.mroIn K C (.type "object") = some true) &&
  decide (PySem.W.findIn K (.ref C) "__init__" = some (some (.ref fI))))))))))))
theorem ecB_ok {K : PySem.W.Frag} {fI C : Addr} (h : ecB K fI C = true) (c : ∃ nm q N bs bm sn sub ab col dd k0 k1 k2 k3 k5, K.lookup C = some (excClassObj nm q C N bs bm true sn sub ab col dd k0 k1 k2 k3 k5 "ValueError.__new__") ∧ PySem.HandSPX.refsVE bm = true) :
    EC K C ∧ PySem.W.findIn K (.ref C) "__init__" = some (some (.ref fI)) := by
  unfold ecB at h
  simp only [Bool.and_eq_true, decide_eq_true_eq] at h
  obtain ⟨h1, h2, h3, h4, h5, h6, h7, h8, h9, h10, h11⟩ := h
  exact ⟨⟨⟨c, h1, h2, h3, h4⟩, h5, h6, h7, h8, h9, h10⟩, h11⟩
/-- which classes are which -/
def kindsB (K : PySem.W.Frag) (cs : List Addr) (b : Addr) : Bool :=
  ((List.range cs.length).all fun j => (List.range cs.length).all fun i => decide (PySem.W.kitOne K (.ref (cs.getD j 0)) (.ref (cs.getD i 0)) = some (decide (j = i)))) &&
  (cs.all (fun c => decide (PySem.W.kitOne K (.ref b) (.ref c) = some false) && (decide (PySem.W.kitOne K (.ref c) (.ref b) = some true) && decide (PySem.W.kitOne K (.ref c) (.type "ValueError") = some true))) &&
  decide (PySem.W.kitOne K (.ref b) (.type "ValueError") = some true))
structure Kinds (K : PySem.W.Frag) (cs : List Addr) (b : Addr) : Prop where
  two : ∀ j i, j < cs.length → i < cs.length → PySem.W.kitOne K (.ref (cs.getD j 0)) (.ref (cs.getD i 0)) = some (decide (j = i))
  low : ∀ c ∈ cs, PySem.W.kitOne K (.ref b) (.ref c) = some false
  up : ∀ c ∈ cs, PySem.W.kitOne K (.ref c) (.ref b) = some true
  ve : ∀ c ∈ cs, PySem.W.kitOne K (.ref c) (.type "ValueError") = some true
  bve : PySem.W.kitOne K (.ref b) (.type "ValueError") = some true
theorem kindsB_ok {K : PySem.W.Frag} {cs : List Addr} {b : Addr} (h : kindsB K cs b = true) : Kinds K cs b := by
  unfold kindsB at h
  simp only [Bool.and_eq_true, List.all_eq_true, decide_eq_true_eq, List.mem_range] at h
  obtain ⟨h1, h2, h3⟩ := h
  exact ⟨fun j i hj hi => h1 j hj i hi, fun c hc => (h2 c hc).1, fun c hc => (h2 c hc).2.1, fun c hc => (h2 c hc).2.2, h3⟩
end G

namespace G
open PySem PySem.Spec PyProof.Rows L2

/-! ### operators of an own class whose instances have a dict -/
section
variable {prog : Program} {w : World} {A : Around} {E : Value → Shared → Prop} {s : Shared} {K : PySem.W.Frag} {x C L f f0 : Addr} {h₀ : Heap} {m : Str → Option Value} {ox : Obj} {od : Option Obj} {nm T : String}
theorem binR_K {op : Operator} {i : Int} {t : Tok} {id : String} {B : Builtin} {Q : Value → Shared → Prop} (F : Fr h₀ L s.heap m) (X₀ : K.In h₀) (I : PySem.W.InstAt s.heap x ox C od) (hc : PySem.W.selfFirst K C = true)
    (hs0 : PySem.W.findIn K (.ref C) (PySem.dunder op.info.2) = some (some (.ref f0)))
    (hs : PySem.W.findIn K (.ref C) (dunderR op.info.2) = some (some (.ref f))) (hf : PySem.W.isFn K (.ref f) = true) (hsub : PySem.W.subIn K (.ref C) (.type "int") = some false)
    (hfill : fillsNumberSlot (.type "int") op.info.2 = pure true) (slot : Slot "int" (dunder op.info.2) id) (entry : entryFor table id = some B) (args : argsOk id ⟨[.int i t, .ref x], []⟩)
    (decl : ∀ (R : Result → Shared → Prop), R (.ok (.ret .notImplemented)) s → wpAny (model prog w) A.in1 (B ⟨[.int i t, .ref x], []⟩) (GQ.FinOf prog w A R) (fun e s' => R (.error e) s') s)
    (h : wpAny (model prog w) A (call (.ref f) [.ref x, .int i t]) (PySem.W.CmpBack Q) E s) : wpAny (model prog w) A (binaryOp op (.int i t) (.ref x)) Q E s := by
  have X := X₀.keeps F.keep
  obtain ⟨cd, rest, hcd, hm⟩ := PySem.W.ksp_first hc
  rcases hi : op.info with ⟨sym, nm'⟩
  rw [hi] at hs hs0 hfill slot
  dsimp only at hs hs0 hfill slot
  have one := PySem.W.ksp_try X I hs hf h
  have L2 : PySem.W.Looks (model prog w) s.heap (typeOf (.ref x)) (.ref C) := I.type
  have L3 : PySem.W.Looks (model prog w) s.heap (fillsNumberSlot (.ref C) nm') true := PySem.W.fills_K X hcd hm hs0
  have L5 : PySem.W.Looks (model prog w) s.heap (isSubtype (.ref C) (.type "int")) false := PySem.W.looks_subIn X hsub
  have hne : (Value.type "int" == Value.ref C) = false := Bool.eq_false_iff.mpr fun q => by cases beq_iff_eq.mp q
  have hT := typeIs_int s i t
  simp only [binaryOp, hi]
  refine wpAny_holding (wpAny_bind ?_)
  unfold binaryOp1
  refine wpAny_bind (wpAny_typeOf hT (wpAny_bind (L2.here (wpAny_bind (wpAny_of_eq hfill ?_)))))
  simp only [hne, Bool.false_eq_true, if_false]
  refine wpAny_bind (L3.here ?_)
  simp only [Bool.and_self, if_true]
  refine wpAny_bind (L5.here ?_)
  have hpy : numberSlotInPython (.type "int") nm' = pure false := rfl
  simp only [Bool.false_eq_true, if_false, pure_bind, Bool.not_false, Bool.and_self, if_true, hpy]
  refine wpAny_bind (wpAny_tryMethod_declines hT slot (GQ.call_here slot hT entry args (decl _ ⟨rfl, ?_⟩)))
  refine wpAny_bind (wpAny_mono one (fun r s' hr' => ?_) fun _ _ e => e)
  obtain ⟨v, rfl, hq⟩ := hr'
  exact wpAny_bind (wpAny_rule (wpAny_pure (wpAny_pure hq)))

theorem cmpR_K {op : CmpOp} {i : Int} {t : Tok} {id : String} {B : Builtin} {Q : Value → Shared → Prop} (hu : A.units < cLine) (F : Fr h₀ L s.heap m) (X₀ : K.In h₀) (I : PySem.W.InstAt s.heap x ox C od)
    (hs : PySem.W.findIn K (.ref C) (cmpInfo op).2.2 = some (some (.ref f))) (hf : PySem.W.isFn K (.ref f) = true) (hsub : PySem.W.subIn K (.ref C) (.type "int") = some false)
    (slot : Slot "int" (cmpInfo op).2.1 id) (entry : entryFor table id = some B) (args : argsOk id ⟨[.int i t, .ref x], []⟩)
    (decl : ∀ (R : Result → Shared → Prop), R (.ok (.ret .notImplemented)) s → wpAny (model prog w) A.in1 (B ⟨[.int i t, .ref x], []⟩) (GQ.FinOf prog w A R) (fun e s' => R (.error e) s') s)
    (h : wpAny (model prog w) A (call (.ref f) [.ref x, .int i t]) (PySem.W.CmpBack Q) E s) : wpAny (model prog w) A (richCompare op (.int i t) (.ref x)) Q E s := by
  have X := X₀.keeps F.keep
  have hT := typeIs_int s i t
  have one : wpAny (model prog w) A (tryCompare (.ref x) (cmpInfo op).2.2 (.int i t)) (fun r s' => ∃ v, r = some v ∧ Q v s') E s := by
    unfold tryCompare
    refine wpAny_bind (PySem.W.ifBound_K X I hs hf (wpAny_mono h (fun v s' hv => ?_) fun _ _ e => e))
    cases v <;> first | exact hv.elim | exact wpAny_pure ⟨_, rfl, hv⟩
  have hne : (Value.type "int" != Value.ref C) = true := by
    have h0 : (Value.type "int" == Value.ref C) = false := Bool.eq_false_iff.mpr fun q => by cases beq_iff_eq.mp q
    unfold bne
    rw [h0]
    rfl
  unfold richCompare
  simp only [hT.oneThing_none]
  refine wpAny_holding (wpAny_bind (wpAny_cRoomFor hu ?_))
  refine wpAny_bind (wpAny_typeOf hT (wpAny_bind (I.type.here ?_)))
  simp only [hne, if_true]
  refine wpAny_bind ((PySem.W.looks_subIn X hsub).here ?_)
  simp only [Bool.false_eq_true, if_false, Bool.not_false, if_true]
  refine wpAny_bind (wpAny_tryCompare_declines hT slot (GQ.call_here slot hT entry args (decl _ ⟨rfl, ?_⟩)))
  refine wpAny_bind (wpAny_mono one (fun r s' z => ?_) fun _ _ e => e)
  obtain ⟨v, rfl, hq⟩ := z
  exact wpAny_pure hq
/-- what a builtin of int says to an instance -/
def Decl (B : Builtin) : Prop := ∀ (prog : Program) (w : World) (A : Around) (R : Result → Shared → Prop) (s : Shared) (i : Int) (t : Tok) (x C dx : Addr), s.heap.get? x = some (PySem.W.instObj C dx) → R (.ok (.ret .notImplemented)) s →
  wpAny (model prog w) A.in1 (B ⟨[.int i t, .ref x], []⟩) (GQ.FinOf prog w A R) (fun e s' => R (.error e) s') s
theorem decl_add : Decl Builtin.«int.__add__» := fun prog w A R s i t x C dx hl h => by
  obtain ⟨hp, g, d, tk, os⟩ := s
  wp_walk using AutoSeq1.wpAny_loadPart' hl, wpAny_load' hl
  exact h
theorem decl_sub : Decl Builtin.«int.__sub__» := fun prog w A R s i t x C dx hl h => by
  obtain ⟨hp, g, d, tk, os⟩ := s
  wp_walk using AutoSeq1.wpAny_loadPart' hl, wpAny_load' hl
  exact h
theorem decl_mul : Decl Builtin.«int.__mul__» := fun prog w A R s i t x C dx hl h => by
  obtain ⟨hp, g, d, tk, os⟩ := s
  wp_walk using AutoSeq1.wpAny_loadPart' hl, wpAny_load' hl
  exact h
theorem decl_lt : Decl Builtin.«int.__lt__» := fun prog w A R s i t x C dx hl h => by
  obtain ⟨hp, g, d, tk, os⟩ := s
  wp_walk using AutoSeq1.wpAny_loadPart' hl, wpAny_load' hl
  exact h
theorem decl_le : Decl Builtin.«int.__le__» := fun prog w A R s i t x C dx hl h => by
  obtain ⟨hp, g, d, tk, os⟩ := s
  wp_walk using AutoSeq1.wpAny_loadPart' hl, wpAny_load' hl
  exact h
theorem decl_gt : Decl Builtin.«int.__gt__» := fun prog w A R s i t x C dx hl h => by
  obtain ⟨hp, g, d, tk, os⟩ := s
  wp_walk using AutoSeq1.wpAny_loadPart' hl, wpAny_load' hl
  exact h
theorem decl_ge : Decl Builtin.«int.__ge__» := fun prog w A R s i t x C dx hl h => by
  obtain ⟨hp, g, d, tk, os⟩ := s
  wp_walk using AutoSeq1.wpAny_loadPart' hl, wpAny_load' hl
  exact h
end

section
variable {X : Cx} {CX : CXT} {pins : List (Addr × Obj)} {σ : L2.St} {H : Hp} {s : Shared} {a C dx p g f f0 : Addr} {fs : List (Str × V)} {n : Nat} {sp : Sp} {E : XK}
theorem ins_inst (I : Inv X pins σ H s) (h : H a = some (.ins C dx fs)) : ∃ (od : Obj) (mA : Str → Option Value), PySem.W.InstAt s.heap a (PySem.W.instObj C dx) C (some od) ∧ (∀ name, PySem.W.lookIn name od = some (mA name)) ∧ ∀ f, RelO (fs.lookup f) (mA f) := by
  obtain ⟨mA, J, r, _⟩ := ins_get I.hok h
  obtain ⟨od, J2, l⟩ := J.look
  exact ⟨od, mA, J2, l, r⟩
/-- a def of no defaults, by position -/
theorem fnR {fd : FuncData} {ps : List Str} (F : FnOk X.prog X.w X.K X.mg X.base CX n g fd ps sp) (b : Binds X.K fd ps []) : FnR X.prog X.w X.K X.mg X.base CX n g sp :=
  (FnOk.raw F b .nil).imp fun vs H Q E h => by rw [List.append_nil]; exact h
/-- x op y: both instances; y an int -/
def rBinK (C : Addr) (sp : Sp) (E : XK) : R2 := fun x y H Q => ∃ a b dx dy fs gs, x = .ref a ∧ y = .ref b ∧ H a = some (.ins C dx fs) ∧ H b = some (.ins C dy gs) ∧ sp [x, y] H Q E
def rBinT (C : Addr) (sp : Sp) (E : XK) : R2 := fun x y H Q => ∃ a dx fs i, x = .ref a ∧ y = .int i ∧ H a = some (.ins C dx fs) ∧ sp [x, y] H Q E
def rBinR (C : Addr) (sp : Sp) (E : XK) : R2 := fun x y H Q => ∃ a dx fs i, x = .int i ∧ y = .ref a ∧ H a = some (.ins C dx fs) ∧ sp [y, x] H Q E
/-- what the text says of the class's defs for op: __op__ at f, __rop__ at g -/
structure OpC (K : PySem.W.Frag) (C f g : Addr) (nm : String) : Prop where
  first : PySem.W.selfFirst K C = true
  at_ : PySem.W.findIn K (.ref C) (PySem.dunder nm) = some (some (.ref f))
  fn : PySem.W.isFn K (.ref f) = true
  rat : PySem.W.findIn K (.ref C) (dunderR nm) = some (some (.ref g))
  rfn : PySem.W.isFn K (.ref g) = true
  i1 : ∃ fo, PySem.W.findIn K (.type "int") (PySem.dunder nm) = some fo
  i2 : ∃ ro, PySem.W.findIn K (.type "int") (dunderR nm) = some ro
  s1 : PySem.W.subIn K (.type "int") (.ref C) = some false
  s2 : PySem.W.subIn K (.ref C) (.type "int") = some false
def opcB (K : PySem.W.Frag) (C f g : Addr) (nm : String) : Bool :=
  PySem.W.selfFirst K C && decide (PySem.W.findIn K (.ref C) (PySem.dunder nm) = some (some (.ref f))) && PySem.W.isFn K (.ref f) && decide (PySem.W.findIn K (.ref C) (dunderR nm) = some (some (.ref g))) && PySem.W.isFn K (.ref g)
    && (PySem.W.findIn K (.type "int") (PySem.dunder nm)).isSome && (PySem.W.findIn K (.type "int") (dunderR nm)).isSome && decide (PySem.W.subIn K (.type "int") (.ref C) = some false) && decide (PySem.W.subIn K (.ref C) (.type "int") = some false)
theorem opcB_ok {K : PySem.W.Frag} {C f g : Addr} {nm : String} (h : opcB K C f g nm = true) : OpC K C f g nm := by
  unfold opcB at h
  simp only [Bool.and_eq_true, decide_eq_true_eq] at h
  obtain ⟨⟨⟨⟨⟨⟨⟨⟨h1, h2⟩, h3⟩, h4⟩, h5⟩, h6⟩, h7⟩, h8⟩, h9⟩ := h
  exact ⟨h1, h2, h3, h4, h5, Option.isSome_iff_exists.mp h6, Option.isSome_iff_exists.mp h7, h8, h9⟩
theorem op_binK {op : Operator} (O : OpC X.K C f g op.info.2) (F : FnR X.prog X.w X.K X.mg X.base CX n f sp) (hr : Room n X.A) (hx : Passes CX X E) : OpR X (binaryOp op) (rBinK C sp E) := by
  intro pins s σ H x y v u Q I rx ry h
  obtain ⟨a, b, dx, dy, fs, gs, rfl, rfl, ha, hb, q⟩ := h
  cases (show v = Value.ref a from rx)
  cases (show u = Value.ref b from ry)
  obtain ⟨od, mA, J, _⟩ := ins_inst I ha
  obtain ⟨od', mA', J', _⟩ := ins_inst I hb
  obtain ⟨m, hF⟩ := I.fr
  refine PySem.W.binop_K hF I.ok.mod.kin J J'.type O.first O.at_ O.fn ?_
  refine wpAny_mono (wpAny_call (run_fnR (us := [.ref a, .ref b]) (vs := [.ref a, .ref b]) F hr hx I (.cons rfl (.cons rfl .nil)) q)) (fun w s' z => ?_) fun _ _ x => x
  obtain ⟨z', H', I', rz, qz⟩ := z
  exact SlX.cmpback rz ⟨z', H', I', rz, qz⟩
theorem op_binT {op : Operator} (O : OpC X.K C f g op.info.2) (F : FnR X.prog X.w X.K X.mg X.base CX n f sp) (hr : Room n X.A) (hx : Passes CX X E) : OpR X (binaryOp op) (rBinT C sp E) := by
  intro pins s σ H x y v u Q I rx ry h
  obtain ⟨a, dx, fs, i, rfl, rfl, ha, q⟩ := h
  cases (show v = Value.ref a from rx)
  obtain ⟨t, e⟩ := (show ∃ t, u = Value.int i t from ry)
  cases e
  obtain ⟨od, mA, J, _⟩ := ins_inst I ha
  obtain ⟨m, hF⟩ := I.fr
  obtain ⟨fo, h1⟩ := O.i1
  obtain ⟨ro, h2⟩ := O.i2
  refine PySem.W.ksp_binT hF I.ok.mod.kin J rfl O.first O.at_ O.fn O.rat (.inr ⟨g, rfl⟩) h1 h2 O.s1 ?_
  refine wpAny_mono (wpAny_call (run_fnR (us := [.ref a, .int i t]) (vs := [.ref a, .int i]) F hr hx I (.cons rfl (.cons ⟨t, rfl⟩ .nil)) q)) (fun w s' z => ?_) fun _ _ x => x
  obtain ⟨z', H', I', rz, qz⟩ := z
  exact SlX.cmpback rz ⟨z', H', I', rz, qz⟩
/-- the builtin of int for op -/
structure IntOp (nm : String) (id : String) (B : Builtin) : Prop where
  fill : fillsNumberSlot (.type "int") nm = pure true
  slot : Slot "int" (dunder nm) id
  entry : entryFor table id = some B
  args : ∀ a b, argsOk id ⟨[a, b], []⟩
  decl : Decl B
theorem io_add : IntOp "add" "int.__add__" Builtin.«int.__add__» := ⟨F.fills_int_add, F.slot_int_add, F.entry_int_add, F.args_int_add_2, decl_add⟩
theorem io_sub : IntOp "sub" "int.__sub__" Builtin.«int.__sub__» := ⟨F.fills_int_sub, F.slot_int_sub, F.entry_int_sub, F.args_int_sub_2, decl_sub⟩
theorem io_mul : IntOp "mul" "int.__mul__" Builtin.«int.__mul__» := ⟨F.fills_int_mul, F.slot_int_mul, F.entry_int_mul, F.args_int_mul_2, decl_mul⟩
theorem op_binR {op : Operator} {id : String} {B : Builtin} (O : OpC X.K C f g op.info.2) (T : IntOp op.info.2 id B) (F : FnR X.prog X.w X.K X.mg X.base CX n g sp) (hr : Room n X.A) (hx : Passes CX X E) : OpR X (binaryOp op) (rBinR C sp E) := by
  intro pins s σ H x y v u Q I rx ry h
  obtain ⟨a, dx, fs, i, rfl, rfl, ha, q⟩ := h
  cases (show u = Value.ref a from ry)
  obtain ⟨t, e⟩ := (show ∃ t, v = Value.int i t from rx)
  cases e
  obtain ⟨od, mA, J, _⟩ := ins_inst I ha
  obtain ⟨m, hF⟩ := I.fr
  refine binR_K hF I.ok.mod.kin J O.first O.at_ O.rat O.rfn O.s2 T.fill T.slot T.entry (T.args _ _) (fun R => T.decl _ _ _ R _ _ _ _ _ _ J.at_) ?_
  refine wpAny_mono (wpAny_call (run_fnR (us := [.ref a, .int i t]) (vs := [.ref a, .int i]) F hr hx I (.cons rfl (.cons ⟨t, rfl⟩ .nil)) q)) (fun w s' z => ?_) fun _ _ x => x
  obtain ⟨z', H', I', rz, qz⟩ := z
  exact SlX.cmpback rz ⟨z', H', I', rz, qz⟩
/-- comparisons: the class's def at f, the one for the other side at g -/
structure CmpC (K : PySem.W.Frag) (C f g : Addr) (op : CmpOp) : Prop where
  at_ : PySem.W.findIn K (.ref C) (cmpInfo op).2.1 = some (some (.ref f))
  fn : PySem.W.isFn K (.ref f) = true
  rat : PySem.W.findIn K (.ref C) (cmpInfo op).2.2 = some (some (.ref g))
  rfn : PySem.W.isFn K (.ref g) = true
  nf : PySem.W.notFirst K C (.ref C) = true
  nfi : PySem.W.notFirst K C (.type "int") = true
  s2 : PySem.W.subIn K (.ref C) (.type "int") = some false
def cmpcB (K : PySem.W.Frag) (C f g : Addr) (op : CmpOp) : Bool :=
  decide (PySem.W.findIn K (.ref C) (cmpInfo op).2.1 = some (some (.ref f))) && PySem.W.isFn K (.ref f) && decide (PySem.W.findIn K (.ref C) (cmpInfo op).2.2 = some (some (.ref g))) && PySem.W.isFn K (.ref g)
    && PySem.W.notFirst K C (.ref C) && PySem.W.notFirst K C (.type "int") && decide (PySem.W.subIn K (.ref C) (.type "int") = some false)
theorem cmpcB_ok {K : PySem.W.Frag} {C f g : Addr} {op : CmpOp} (h : cmpcB K C f g op = true) : CmpC K C f g op := by
  unfold cmpcB at h
  simp only [Bool.and_eq_true, decide_eq_true_eq] at h
  obtain ⟨⟨⟨⟨⟨⟨h1, h2⟩, h3⟩, h4⟩, h5⟩, h6⟩, h7⟩ := h
  exact ⟨h1, h2, h3, h4, h5, h6, h7⟩
theorem op_cmpK {op : CmpOp} (hop : ∀ a b, compareOp op a b = richCompare op a b) (O : CmpC X.K C f g op) (F : FnR X.prog X.w X.K X.mg X.base CX n f sp) (hr : Room n X.A) (hx : Passes CX X E) : OpR X (compareOp op) (rBinK C sp E) := by
  intro pins s σ H x y v u Q I rx ry h
  obtain ⟨a, b, dx, dy, fs, gs, rfl, rfl, ha, hb, q⟩ := h
  cases (show v = Value.ref a from rx)
  cases (show u = Value.ref b from ry)
  obtain ⟨od, mA, J, _⟩ := ins_inst I ha
  obtain ⟨od', mA', J', _⟩ := ins_inst I hb
  obtain ⟨m, hF⟩ := I.fr
  rw [hop]
  refine PySem.W.cmp_K (op := op) (tb := .ref C) hr.units0 hF I.ok.mod.kin J J'.type O.nf O.at_ O.fn ?_
  refine wpAny_mono (wpAny_call (run_fnR (us := [.ref a, .ref b]) (vs := [.ref a, .ref b]) F hr hx I (.cons rfl (.cons rfl .nil)) q)) (fun w s' z => ?_) fun _ _ x => x
  obtain ⟨z', H', I', rz, qz⟩ := z
  exact SlX.cmpback rz ⟨z', H', I', rz, qz⟩
theorem op_cmpT {op : CmpOp} (hop : ∀ a b, compareOp op a b = richCompare op a b) (O : CmpC X.K C f g op) (F : FnR X.prog X.w X.K X.mg X.base CX n f sp) (hr : Room n X.A) (hx : Passes CX X E) : OpR X (compareOp op) (rBinT C sp E) := by
  intro pins s σ H x y v u Q I rx ry h
  obtain ⟨a, dx, fs, i, rfl, rfl, ha, q⟩ := h
  cases (show v = Value.ref a from rx)
  obtain ⟨t, e⟩ := (show ∃ t, u = Value.int i t from ry)
  cases e
  obtain ⟨od, mA, J, _⟩ := ins_inst I ha
  obtain ⟨m, hF⟩ := I.fr
  rw [hop]
  refine PySem.W.cmp_K (op := op) (tb := .type "int") hr.units0 hF I.ok.mod.kin J (PySem.W.Looks.of_pure rfl) O.nfi O.at_ O.fn ?_
  refine wpAny_mono (wpAny_call (run_fnR (us := [.ref a, .int i t]) (vs := [.ref a, .int i]) F hr hx I (.cons rfl (.cons ⟨t, rfl⟩ .nil)) q)) (fun w s' z => ?_) fun _ _ x => x
  obtain ⟨z', H', I', rz, qz⟩ := z
  exact SlX.cmpback rz ⟨z', H', I', rz, qz⟩
structure IntCmp (op : CmpOp) (id : String) (B : Builtin) : Prop where
  slot : Slot "int" (cmpInfo op).2.1 id
  entry : entryFor table id = some B
  args : ∀ a b, argsOk id ⟨[a, b], []⟩
  decl : Decl B
theorem ic_lt : IntCmp .Lt "int.__lt__" Builtin.«int.__lt__» := ⟨F.slot_int_lt, F.entry_int_lt, F.args_int_lt_2, decl_lt⟩
theorem ic_le : IntCmp .LtE "int.__le__" Builtin.«int.__le__» := ⟨F.slot_int_le, F.entry_int_le, F.args_int_le_2, decl_le⟩
theorem ic_gt : IntCmp .Gt "int.__gt__" Builtin.«int.__gt__» := ⟨F.slot_int_gt, F.entry_int_gt, F.args_int_gt_2, decl_gt⟩
theorem ic_ge : IntCmp .GtE "int.__ge__" Builtin.«int.__ge__» := ⟨F.slot_int_ge, F.entry_int_ge, F.args_int_ge_2, decl_ge⟩
theorem op_cmpR {op : CmpOp} {id : String} {B : Builtin} (hop : ∀ a b, compareOp op a b = richCompare op a b) (O : CmpC X.K C f g op) (T : IntCmp op id B) (F : FnR X.prog X.w X.K X.mg X.base CX n g sp) (hr : Room n X.A) (hx : Passes CX X E) : OpR X (compareOp op) (rBinR C sp E) := by
  intro pins s σ H x y v u Q I rx ry h
  obtain ⟨a, dx, fs, i, rfl, rfl, ha, q⟩ := h
  cases (show u = Value.ref a from ry)
  obtain ⟨t, e⟩ := (show ∃ t, v = Value.int i t from rx)
  cases e
  obtain ⟨od, mA, J, _⟩ := ins_inst I ha
  obtain ⟨m, hF⟩ := I.fr
  rw [hop]
  refine cmpR_K hr.units0 hF I.ok.mod.kin J O.rat O.rfn O.s2 T.slot T.entry (T.args _ _) (fun R => T.decl _ _ _ R _ _ _ _ _ _ J.at_) ?_
  refine wpAny_mono (wpAny_call (run_fnR (us := [.ref a, .int i t]) (vs := [.ref a, .int i]) F hr hx I (.cons rfl (.cons ⟨t, rfl⟩ .nil)) q)) (fun w s' z => ?_) fun _ _ x => x
  obtain ⟨z', H', I', rz, qz⟩ := z
  exact SlX.cmpback rz ⟨z', H', I', rz, qz⟩
/-- -x of an instance -/
def rUnK (C : Addr) (sp : Sp) (E : XK) : V → Hp → VK → Prop := fun x H Q => ∃ a dx fs, x = .ref a ∧ H a = some (.ins C dx fs) ∧ sp [x] H Q E
theorem un_negK (hs : PySem.W.findIn X.K (.ref C) "__neg__" = some (some (.ref f))) (hf : PySem.W.isFn X.K (.ref f) = true) (F : FnR X.prog X.w X.K X.mg X.base CX n f sp) (hr : Room n X.A) (hx : Passes CX X E) : UnR X (unaryOp .USub) (rUnK C sp E) := by
  intro pins s σ H x v Q I rx h
  obtain ⟨a, dx, fs, rfl, ha, q⟩ := h
  cases (show v = Value.ref a from rx)
  obtain ⟨od, mA, J, _⟩ := ins_inst I ha
  obtain ⟨m, hF⟩ := I.fr
  exact PySem.W.ksp_neg hF I.ok.mod.kin J hs hf (wpAny_call (run_fnR (us := [.ref a]) (vs := [.ref a]) F hr hx I (.cons rfl .nil) q))
end
end G

namespace G
open PySem PySem.Spec PyProof.Rows L2

/-! ### an error that is caught and kept -/
/-- an error of the class at C that was raised once -/
def exc (a C : Addr) (d : Option Addr) : HO := .ext fun h => ∃ (oe : Obj) (vs : Array Value), h.get? a = some oe ∧ Zc (.ref C) d oe ∧ oe.data = .fields vs
theorem exc_ok {P : Program} {w : World} {H : Hp} {h : Heap} {a C : Addr} {d : Option Addr} {oe : Obj} {vs : Array Value} (e : h.get? a = some oe) (z : Zc (.ref C) d oe) (dt : oe.data = .fields vs) : ObjOk P w H h a (exc a C d) :=
  ⟨⟨oe, vs, e, z, dt⟩, ⟨oe, e⟩, fun h1 h2 ⟨o, v, x, y, u⟩ k => ⟨o, v, k _ x, y, u⟩⟩
/-- the caught error, with what it keeps -/
def Caught (H : Hp) (a C : Addr) (v : V) : Prop := ∃ d, H a = some (exc a C (some d)) ∧ H d = some (.xd [("value", v)])
theorem Caught.same {H H' : Hp} (S : Same H H') {a C : Addr} {v : V} (e : Caught H a C v) : Caught H' a C v := let ⟨d, h1, h2⟩ := e; ⟨d, S _ _ h1, S _ _ h2⟩

section
variable {X : Cx} {pins : List (Addr × Obj)} {σ : L2.St} {H : Hp} {s : Shared} {a C : Addr}
/-- an object that is there, new since the entry, is tracked from now on -/
theorem adopt {o : HO} (I : Inv X pins σ H s) (hx : X.ex = []) (na : H a = none) (n0 : X.s_0.heap.get? a = none) (nL : a ≠ X.env.locals) (nc : ∀ x c, X.env.cells.lookup x = some c → c ≠ a) (np : ∀ p ∈ X.pn ++ pins, p.1 ≠ a)
    (new : ObjOk X.prog X.w (upd H a o) s.heap a o) : Inv X pins σ (upd H a o) s := by
  have old : ∀ {b : Addr} {u : HO}, H b = some u → upd H a o b = some u := fun {b u} e => by
    rw [upd_ne (fun z => by rw [z, na] at e; cases e)]
    exact e
  refine ⟨I.ok, I.os, I.bare, ⟨I.base.keep, I.base.slot, fun b ob e n hb => ?_, I.base.there, fun b xs e => old (I.base.tups b xs e), fun b ob u e => old (I.base.frzs b ob u e), fun b ps e => ?_⟩, I.loc, I.cell, ?_, fun x c e => ?_, fun p hp => ?_,
    I.hok.laidN (fun _ _ z => z) na new, I.len⟩
  · rw [upd_ne (fun z => by rw [z, n0] at e; cases e)]
    exact I.base.free b ob e n hb
  · obtain ⟨m, z⟩ := I.base.tbls b ps e
    exact ⟨m, old z⟩
  · rw [upd_ne (Ne.symm nL)]
    exact I.free
  · rw [upd_ne (nc x c e)]
    exact I.freeC x c e
  · obtain ⟨p1, p2, p3⟩ := I.pin p hp
    exact ⟨p1, by rw [upd_ne (np p hp)]; exact p2, p3⟩
end

/-- what 'except x as n' wishes, where the error is kept by the suite -/
def wAsT (K : PySem.W.Frag) (c : Value) (i : Nat) (ts : Addr → Value → Option Addr → TS) (D : Ends) : WX := fun cls d σ H =>
  PySem.W.exmOne K cls c = some true ∧ ∃ C, cls = .ref C ∧ ∀ a, H a = none → ts a cls d { nx := fun σ' H' => D.nx (σ'.set i none) (upd H' a (exc a C d)), rt := fun _ _ => False, bk := fun _ _ => False, ct := fun _ _ => False } (σ.set i (some (.ref a))) H
section
variable {X : Cx} {x n : Str} {c : Value} {i : Nat} {body suite : List Stmt} {b₀ : Stmt} {np pos pos' : Pos} {tb : WX → TS} {ts : Addr → Value → Option Addr → TS} {Wout : WX}
theorem ps_try_asT (hx : X.ex = []) (hs : X.stack = X.env :: X.outer) (hf : X.env.frame = some X.env.locals) (hN : X.N.Nodup) (hi : X.N[i]? = some n) (hln : X.env.kindOf n = some .local) (hc : Names X x c)
    (hb : ∀ (W : WX) (pn : List (Addr × Obj)) (xe : Value → Shared → Prop), Takes (X.tr pn xe) W → PassesOwn (model X.prog X.w) X.A X.env xe → PSs (X.tr pn xe) body (tb W))
    (hsu : ∀ (a : Addr) (oe : Obj) (cls : Value) (d : Option Addr) (pn : List (Addr × Obj)), Zc cls d oe → (∃ vs, oe.data = .fields vs) → PSs (X.suite a ((a, oe) :: pn)) (b₀ :: suite) (ts a cls d)) :
    PS X (.Try body [.ExceptHandler (some (.Name x np)) (some n) (b₀ :: suite) pos'] [] [] pos) (fun D σ H => tb (wAsT X.K c i ts D) D σ H) := by
  refine ⟨fun pins s σ H D I h => ?_⟩
  have ok := I.ok
  have hfr : X.A.frames = some (X.env :: X.outer) := by rw [ok.frames, hs]
  have hloc : Loc X.env.scope n := .inl hln
  refine wpAny_Try_except ?_
  refine wpAny_mono ((hb (wAsT X.K c i ts D) (X.pn ++ pins) (fun e s₁ => wpAny (model X.prog X.w) X.A (noteFrame e X.env) (fun _ s₂ => wpAny (model X.prog X.w) X.A (setFlight e none) (fun _ s₃ =>
    wpAny (model X.prog X.w) X.A (handleBy e X.env [.ExceptHandler (some (.Name x np)) (some n) (b₀ :: suite) pos']) (SP X pins D) X.xe s₃) X.xe s₂) X.xe s₁) (fun u s' xx => ?_) PassesOwn.looking).run [] s σ H D (I.toTry _) h) (fun f s1 hsp => ?_) (fun e s1 he => he)
  · -- the catch
    obtain ⟨a, B, sI, pins', σ', H', cls, d, rfl, J', nb, up, sky, na, os, ag, hb1, C, rfl, hyes⟩ := xx
    have J : Inv X pins σ' H' sI := J'.ofTry ok
    have sky' : Sky B (X.env :: X.outer) a (Zc (.ref C) d) X.env.locals s'.heap := by rw [← hs]; exact sky
    show wpAny (model X.prog X.w) X.A (noteFrame (.ref a) X.env) _ _ _
    refine Sky.land Zc.steady hfr hf sky' fun h3 fl3 up3 => ?_
    have J3 : Inv X pins σ' H' { s' with heap := h3 } := J.landed nb fl3.1 (up.trans up3) os ag
    obtain ⟨oe3, vs3, he3, hz3, hd3⟩ := fl3.there
    have notFr : ∀ {h : Heap} {o : Obj} {vs : Array Value}, h.FunFrames B (X.env :: X.outer) → h.get? a = some o → o.data = .fields vs → a ∉ frs (X.env :: X.outer) := fun {h o vs} ff e dd hm => by
      obtain ⟨_, o', e', hnf⟩ := ff.mem hm
      rw [e] at e'; cases e'
      exact hnf _ dd
    have nfr := notFr fl3.2.2.1 he3 hd3
    have nL : a ≠ X.env.locals := fun z => nfr (List.mem_filterMap.mpr ⟨X.env, List.mem_cons_self, by rw [hf, z]⟩)
    have nF : a ∉ X.fs := fun hm => by
      obtain ⟨e, he, q⟩ := List.mem_filterMap.mp hm
      exact nfr (List.mem_filterMap.mpr ⟨e, List.mem_cons_of_mem _ he, q⟩)
    have nI : sI.heap.get? a = none := by
      cases e : sI.heap.get? a with
      | none => rfl
      | some o =>
        have z := nb a o e (by rw [hs]; exact nfr)
        rw [fl3.2.1] at z
        cases z
    have n0 : X.s_0.heap.get? a = none := by
      cases e : X.s_0.heap.get? a with
      | none => rfl
      | some o =>
        obtain ⟨o', z⟩ := J.base.there a o e (by rw [hx]; exact fun z => nomatch z)
        rw [nI] at z
        cases z
    have S3 := J3.suite he3 hd3 na nL nF
    refine wpAny_handleBy_cons (codeAny_handlers_test ?_) (by intro q; cases q)
    have LT : PySem.W.Looks (model X.prog X.w) h3 (typeOf (.ref a)) (.ref C) := fun A Q E s k q => wpAny_typeOf_ref (k _ _ he3) (by rw [hz3.1]; exact q)
    have LM := PySem.W.exm_one (M := model X.prog X.w) (J3.kIn) LT hb1
    have test : ∀ {Q : Value → Shared → Prop} {E : Value → Shared → Prop}, Q c { s' with heap := h3 } → wpAny (model X.prog X.w) (X.A.mark (some (.ref a))) (eval (.Name x np) X.env) Q E { s' with heap := h3 } := fun {Q E} q => by
      obtain ⟨hg, hdbg, hm | ⟨hm, hv, hnn⟩⟩ := hc
      · exact ld_glob (X := X.suite a ((a, oe3) :: (X.pn ++ pins))) S3 hg hm q hdbg
      · exact ld_blt (X := X.suite a ((a, oe3) :: (X.pn ++ pins))) S3 hg hm hv q hnn hdbg
    refine test (LM.here ?_)
    refine codeAny_handlers_suite_as ?_
    refine HandSPX.lands_againZ fl3 fun h4 fl4 up4 => ?_
    have J4 : Inv X pins σ' H' { s' with heap := h4 } := J.landed nb fl4.1 ((up.trans up3).trans up4) os ag
    obtain ⟨oe4, vs4, he4, hz4, hd4⟩ := fl4.there
    have S4 := J4.suite he4 hd4 na nL nF
    refine store_ok (X := X.suite a ((a, oe4) :: (X.pn ++ pins))) (v := .ref a) S4 hN hi hloc rfl (fun s5 S5 => ?_) (.inr hln)
    refine wpAny_mono ((hsu a oe4 (.ref C) d (X.pn ++ pins) hz4 ⟨_, hd4⟩).run [] s5 _ H' _ S5 (hyes a na)) (fun f s6 hsp => ?_) (fun _ _ z => False.elim z)
    cases f with
    | next =>
      obtain ⟨σ6, H6, S6, q6⟩ := hsp
      have P6 : Inv X ((a, oe4) :: pins) σ6 H6 s6 := ⟨ok, S6.os, S6.bare, S6.base, S6.loc, S6.cell, S6.free, S6.freeC, fun p hp => S6.pin p (by
        have hp' : p ∈ (a, oe4) :: (X.pn ++ pins) := by
          rcases List.mem_append.mp hp with z | z
          · exact List.mem_cons_of_mem _ (List.mem_append_left _ z)
          · rcases List.mem_cons.mp z with z | z
            · rw [z]; exact List.mem_cons_self
            · exact List.mem_cons_of_mem _ (List.mem_append_right _ z)
        exact List.mem_append_left _ hp'), S6.hok, S6.len⟩
      refine gone_ok P6 hN hi hln fun s7 J7 => ?_
      obtain ⟨e7, na7, nL7, nF7, nc7⟩ := J7.pin (a, oe4) (List.mem_append_right _ List.mem_cons_self)
      have K7 : Inv X pins (σ6.set i none) H6 s7 := ⟨ok, J7.os, J7.bare, J7.base, J7.loc, J7.cell, J7.free, J7.freeC, fun p hp => J7.pin p (by
        rcases List.mem_append.mp hp with z | z
        · exact List.mem_append_left _ z
        · exact List.mem_append_right _ (List.mem_cons_of_mem _ z)), J7.hok, J7.len⟩
      refine ⟨_, _, adopt K7 hx na7 n0 nL (fun y cc e z => ?_) (fun p hp z => ?_) (exc_ok e7 hz4 hd4), q6⟩
      · obtain ⟨v, o, ho, hd⟩ := J7.cell y cc e
        rw [z, e7] at ho
        cases ho
        exact nc7 _ hd
      · have w := (J.pin p hp).1
        rw [z, nI] at w
        cases w
    | brk =>
      obtain ⟨σ6, H6, S6, q6⟩ := hsp
      exact q6.elim
    | cont =>
      obtain ⟨σ6, H6, S6, q6⟩ := hsp
      exact q6.elim
    | ret u =>
      obtain ⟨v6, σ6, H6, S6, r6, q6⟩ := hsp
      exact q6.elim
  · cases f with
    | next =>
      obtain ⟨σ', H', J', q⟩ := hsp
      exact wpAny_execs_nil ⟨σ', H', J'.ofTry ok, q⟩
    | brk =>
      obtain ⟨σ', H', J', q⟩ := hsp
      exact ⟨σ', H', J'.ofTry ok, q⟩
    | cont =>
      obtain ⟨σ', H', J', q⟩ := hsp
      exact ⟨σ', H', J'.ofTry ok, q⟩
    | ret u =>
      obtain ⟨v, σ', H', J', r, q⟩ := hsp
      exact ⟨v, σ', H', J'.ofTry ok, r, q⟩
end

/-! ### what is read of it -/
section
variable {X : Cx}
theorem caught_inst {pins : List (Addr × Obj)} {σ : L2.St} {H : Hp} {s : Shared} (I : Inv X pins σ H s) {a C : Addr} {v : V} (e : Caught H a C v) :
    ∃ (ox : Obj) (od : Obj) (mA : Str → Option Value) (dx : Addr), PySem.W.InstAt s.heap a ox C (some od) ∧ s.heap.Ns1 dx mA ∧ s.heap.get? dx = some od ∧ (∀ f, RelO (([("value", v)] : List (Str × V)).lookup f) (mA f)) := by
  obtain ⟨d, h1, h2⟩ := e
  obtain ⟨⟨oe, vs, ho, hz, dt⟩, _, _⟩ := (show ObjOk X.prog X.w H s.heap a (exc a C (some d)) from I.hok a _ h1)
  obtain ⟨mA, hn, hr⟩ := (show ObjOk X.prog X.w H s.heap d (.xd [("value", v)]) from I.hok d _ h2)
  obtain ⟨o, es, ep, hd, hz'⟩ := id hn
  refine ⟨oe, o, mA, d, ⟨ho, hz.1, ?_, ?_⟩, hn, hd, hr⟩
  · unfold PySem.W.notCls
    rw [dt]
  · rw [hz.2]
    exact hd
/-- e.value -/
theorem pe_valueC {e : Expr} {te : TE} {pos : Pos} (he : PE X e te) (hb : attributeBase e "value" X.env (eval e X.env) = eval e X.env := by rfl) :
    PE X (.Attribute e "value" pos) (fun σ H Q => te σ H fun x H1 => ∃ a C v, x = .ref a ∧ EC X.K C ∧ Caught H1 a C v ∧ Q v H1) := by
  constructor
  intro pins s σ H Q I h
  refine attr_of hb (thn (he.run pins s σ H _ I h) ?_)
  rintro u s1 ⟨x, H1, I1, rx, a, C, v, rfl, T, ea, q⟩
  cases rx
  obtain ⟨ox, od, mA, dx, J, hn, hd, hr⟩ := caught_inst I1 ea
  obtain ⟨od', hod, hl⟩ := lookIn_ns hn
  have eo : od' = od := Option.some.inj (hod.symm.trans hd)
  subst eo
  obtain ⟨u, hu, ru⟩ := RelO.some_of (v := v) (o := mA "value") (by have := hr "value"; simpa [List.lookup] using this)
  exact HandSPX.exc_get I1.kIn J T.ga T.gg T.ox.exC (PySem.W.findObj_own T.hd T.nv rfl (by rw [hl, hu])) (handed_of ru) ⟨v, H1, I1.tok _, ru, q⟩
/-- isinstance(e, C) of such an error, or of None -/
theorem call_isCaught (S : EK X.K) : CallR X (.builtin "isinstance") (fun xs H Q => ∃ (a C : Addr) (v c : V) (u : Value) (b : Bool), xs = [.ref a, c] ∧ ClsV c u ∧ EC X.K C ∧ Caught H a C v ∧ PySem.W.kitOne X.K (.ref C) u = some b ∧ Q (.bl b) H) := by
  intro pins s σ H xs us Q I r h
  obtain ⟨a, C, v, c, u, b, rfl, k, T, ea, e, q⟩ := h
  obtain ⟨u1, u2, rfl, r1, r2⟩ := vals2 r
  have e2 := k.eq r2
  subst e2
  cases r1
  obtain ⟨ox, od, mA, dx, J, hn, hd, hr⟩ := caught_inst I ea
  exact PySem.W.kia_one (PySem.W.kitx_exc (gt := none) T.cls T.ga T.gg T.ox.exC T.kl S.sp S.tk T.ob) I.kIn J e (fun z => nomatch z) fun tk => ⟨.bl b, H, I.tok tk, rfl, q⟩
end
end G

namespace G
open PySem PySem.Spec PyProof.Rows L2 LamX

/-! ### a lambda handed to a def that catches what it raises; the wish may look at the slots -/
section
variable {X : Cx} {pins : List (Addr × Obj)} {σ : L2.St} {H HZ : Hp} {s s1 : Shared}
/-- the lambda's own name and object -/
abbrev lamName (X : Cx) : Str := X.env.qual ++ "<lambda>"
abbrev lamObj (X : Cx) (params : Arguments) (body : Expr) (scope : Scope) (pm : Value) (c' : Addr) (ctv : Value) : Obj := PySem.W.kla_obj "<lambda>" (lamName X) params body scope (cloFrom X.env.cells scope.names []) pm c' ctv
theorem lam_runs {A : Around} {outer : List Env} {E : XK} {Q : VK} {f c' : Addr} {pm ctv : Value} {params : Arguments} {body : Expr} {scope : Scope} {k : Nat} {tb : TE}
    (I : Inv X pins σ H s) (L : LamS X.env.scope scope) (of : s1.heap.get? f = some (lamObj X params body scope pm c' ctv)) (un : Un (frs X.stack) [] H HZ s.heap s1.heap)
    (e0 : Env0 X.prog X.w X.K X.mg X.base A outer s1 HZ) (hr : Room (k + 1) A) (hc : HZ c' = some (CodeO c' (lamName X)))
    (nb : bindArgs (PySem.W.kla_fn "<lambda>" (lamName X) params body scope (cloFrom X.env.cells scope.names []) pm (.ref c') ctv) ⟨[], []⟩ = pure [])
    (bd : Room k (A.deeper (lamEnv X scope s1.heap.objs.size f c')) → PE (lamCx X A outer s1 HZ E scope f c') body tb) (ht : tb σ HZ Q) :
    codeAny (model X.prog X.w) A (.call (.ref f) ⟨[], []⟩) (CR (L2.CX X.prog X.w) outer X.prog X.w HZ s1 Q E) s1 := by
  have lim : s1.heap.NoLimit := e0.mod.nolimit.keeps fun b o e => (e0.bs b o e).1
  obtain ⟨⟨oc, vs, t, g1, g2, g3⟩, _, _⟩ := (show ObjOk X.prog X.w HZ s1.heap c' (CodeO c' (lamName X)) from e0.hok c' _ hc)
  apply PySem.W.kla_callFunE hr.depth of rfl L.co L.gen rfl ⟨c', oc, vs, t, rfl, g1, g2, g3⟩
  rw [nb]
  apply wpAny_pure
  apply wpAny_newFunctionEnv (fun y hy => (L.own y hy).2) (fun y hy => absurd hy (by simp)) _ L.kind
  intro h₁ hns hsb
  refine ⟨lim.fresh _ hsb, ?_⟩
  have kp : ∀ b o, s1.heap.get? b = some o → h₁.get? b = some o := by
    intro b o e
    exact hsb.extBut b o (Nat.ne_of_lt (Heap.lt_size e)) (Heap.get?_push_of_some _ e)
  have J := lam_start2 (f := f) (c' := c') (tk := s1.toks + ([] : List (Str × Value)).length) (E := E) I L e0 hr.hd un hns kp
  apply PySem.W.kla_codeExpr
  apply wpAny_mono ((bd (hr.deeper _)).run [] _ _ HZ Q J ht)
  · rintro v s' ⟨w', H', J', rv, q⟩
    exact ⟨w', H', J'.os, J'.bare, J'.base, J'.hok, rv, q⟩
  · exact fun _ _ z => z
/-- a(), in the def that got it -/
theorem pe_ask {CXg : CXT} {Eg : XK} {Ng : List Str} {qg : Str} {sg : Scope} {g f c' : Addr} {cdg pm ctv : Value} {params : Arguments} {body : Expr} {scope : Scope} {k i : Nat} {a : Str} {pn : List (Addr × Obj)} {xe : Value → Shared → Prop} {W : WX} {tb : XK → TE} {p1 p2 : Pos}
    (I : Inv X pins σ H s) (L : LamS X.env.scope scope) (hf : s.heap.get? f = some (lamObj X params body scope pm c' ctv)) (hfn : H f = none) (hfr : f ∉ frs X.stack)
    (nb : bindArgs (PySem.W.kla_fn "<lambda>" (lamName X) params body scope (cloFrom X.env.cells scope.names []) pm (.ref c') ctv) ⟨[], []⟩ = pure [])
    (tk : Takes ((cxOf CXg X.prog X.w X.K X.mg X.base Ng qg sg g cdg X.A X.stack s H Eg).tr pn xe) W) (hr : Room (k + 1) (X.A.deeper (envOfC qg sg s.heap.objs.size g cdg)))
    (bd : ∀ (E : XK) (A : Around) (outer : List Env) (s : Shared) (H : Hp), Room k (A.deeper (lamEnv X scope s.heap.objs.size f c')) → PE (lamCx X A outer s H E scope f c') body (tb E))
    (hN : Ng[i]? = some a) (hv : Vis sg a) (hd : (a == ("__debug__" : Str)) = false := by decide) (hcd : (a == ("__classdict__" : Str)) = false := by decide) :
    PE ((cxOf CXg X.prog X.w X.K X.mg X.base Ng qg sg g cdg X.A X.stack s H Eg).tr pn xe) (.Call (.Name a p1) [] [] p2)
      (fun σZ HZ Q => σZ[i]? = some (some (.ref f)) ∧ HZ c' = some (CodeO c' (lamName X)) ∧ tb (fun cls d H' => W cls d σZ H') σ HZ Q) := by
  constructor
  rintro pZ sZ σZ HZ Q IZ ⟨hs, hc, ht⟩
  apply wpAny_Call_Name_kw
  apply thn ((pe_var (pos := p1) (i := i) hN hv hd hcd).run pZ sZ σZ HZ (fun v H1 => v = .ref f ∧ H1 = HZ) IZ ⟨.ref f, hs, rfl, rfl⟩)
  rintro u s1 ⟨v, H1, I1, r1, rfl, rfl⟩
  obtain rfl : u = Value.ref f := r1
  have un : Un (frs X.stack) [] H H1 s.heap s1.heap := I1.base
  have of1 := un.keep f _ hf hfn hfr (fun z => nomatch (show f ∈ ([] : List Addr) from z))
  apply PySem.W.callWith_F0 ⟨_, _, _, _, of1⟩
  have rc := lam_runs (E := fun cls d H' => W cls d σZ H') (Q := Q) I L of1 un I1.env0 hr hc nb (fun h => bd _ _ _ _ _ h) ht
  apply wpAny_call
  apply codeAny_mono rc
  intro r s' hq
  match r, hq with
  | .error e, hq => exact passAt tk σZ pZ H1 s1 e s' I1 hq
  | .ok .next, hq => exact hq.elim
  | .ok .brk, hq => exact hq.elim
  | .ok .cont, hq => exact hq.elim
  | .ok (.ret w), hq => exact I1.after hq
/-- what a def makes of the lambda that it calls as a: TT, from the lambda's reading -/
def Asks (X : Cx) (Ng : List Str) (x : Str) (sg : Scope) (g : Addr) (cdg : Value) (bg : List Stmt) (a : Str) (q : Str) (TT : (XK → Hp → VK → Prop) → Hp → VK → Prop) : Prop :=
  ∀ (f c' : Addr) (s : Shared) (H : Hp) (Q : VK) (tl : XK → Hp → VK → Prop),
    (∀ (W : WX) (pn : List (Addr × Obj)) (xe : Value → Shared → Prop) (p1 p2 : Pos), Takes ((cxOf C8.CX0 X.prog X.w X.K X.mg X.base Ng x sg g cdg X.A X.stack s H C8.E0).tr pn xe) W →
      PE ((cxOf C8.CX0 X.prog X.w X.K X.mg X.base Ng x sg g cdg X.A X.stack s H C8.E0).tr pn xe) (.Call (.Name a p1) [] [] p2) (fun σZ HZ Q => σZ[0]? = some (some (.ref f)) ∧ HZ c' = some (CodeO c' q) ∧ tl (fun cls d H' => W cls d σZ H') HZ Q)) →
    H c' = some (CodeO c' q) → TT tl H Q →
    ∃ t, PSs (cxOf C8.CX0 X.prog X.w X.K X.mg X.base Ng x sg g cdg X.A X.stack s H C8.E0).nox bg t ∧ t { nx := fun _ H' => Q .non H', rt := Q } (L2.start Ng [.ref f]) H
/-- x(lambda: body) -/
theorem pe_asks {T : List (Addr × Str)} {TT : (XK → Hp → VK → Prop) → Hp → VK → Prop} {x a : Str} {g c P : Addr} {k : Nat} {pg : Arguments} {bg : List Stmt} {sg : Scope} {dV kV doc pm cdv ct oc : Value} {an od : Option Addr} {osl : Array (Option Value)} {Ng : List Str}
    {params : Arguments} {body : Expr} {scope : Scope} {t : XK → TE} {p lpos pos : Pos} (hg : Gl X x) (hm : X.mg x = some (.ref g)) (hk : PySem.W.keepIn X.K (.ref g) = true)
    (lk : X.K.lookup g = some ⟨oc, od, .func (PySem.W.fnOf x x pg bg sg dV kV doc pm an cdv ct), osl⟩) (hcg : PySem.W.codeIn X.K cdv x = true) (hb : L2.Binds X.K (PySem.W.fnOf x x pg bg sg dV kV doc pm an cdv ct) [a] []) (Sg : FnScope Ng [a] sg) (hNg : Ng[0]? = some a) (hva : Vis sg a)
    (hG : Asks X Ng x sg g cdv bg a (lamName X) TT)
    (TB : TabB X.base X.mg c P) (hcode : X.env.code = .ref c) (hmT : (P, lamName X) ∈ T) (hu : ∀ p ∈ T, p.1 = P → p.2 = lamName X) (hr : Room (k + 2) X.A) (L : LamS X.env.scope scope) (hdef : defaultsOf params X.env = ([], []))
    (nb : ∀ (q : Str) (cl : List (Str × Addr)) (pm cv ctv : Value), bindArgs (PySem.W.kla_fn "<lambda>" q params body scope cl pm cv ctv) ⟨[], []⟩ = pure [])
    (bd : ∀ (A : Around) (outer : List Env) (s : Shared) (H : Hp) (E : XK) (f c' : Addr), Room k (A.deeper (lamEnv X scope s.heap.objs.size f c')) → PE (lamCx X A outer s H E scope f c') body (t E))
    (hdb : (x == ("__debug__" : Str)) = false := by decide) (hd : (a == ("__debug__" : Str)) = false := by decide) (hcd : (a == ("__classdict__" : Str)) = false := by decide) :
    PE X (.Call (.Name x p) [.Lambda params body scope lpos] [] pos) (tLam T TT t) := by
  constructor
  rintro pins s σ H Q I ⟨hT, h⟩
  apply wpAny_Call_Name_kw
  apply ld_glob I hg hm _ hdb
  refine PySem.W.callWith_K (h₀ := X.base) I.ok.mod.kin hk ?_ (by rfl) (by rfl)
  show wpAny _ _ (spliced ((false, eval (.Lambda params body scope lpos) X.env) :: backTo pos (starEach [] X.env))) _ _ s
  apply Calls.spliced_cons
  apply lam_make2 I TB hcode hmT hu hT hdef (L.has I.ok)
  intro f c' pm' ctv H1 s' I1 eN T1 hf hfn hfr hco
  refine Calls.spliced_nil ⟨I1.kIn, ?_⟩
  have rc : codeAny (model X.prog X.w) X.A (.call (.ref g) ⟨[.ref f], []⟩) (CR C8.CX0 X.stack X.prog X.w H1 s' Q C8.E0) s' := by
    refine run_ofS (N := Ng) (ps := [a]) (us := [.ref f]) (vs := [.ref f]) lk hcg Sg hr I1.env0 (hb s' [.ref f] I1.kIn rfl) (.cons rfl .nil) rfl fun hr' => ?_
    obtain ⟨t', ht', hq'⟩ := hG f c' s' H1 Q (fun E H' Q' => t E σ H' Q') (fun W pn xe p1 p2 tk => pe_ask (i := 0) (tb := t) I1 L hf hfn hfr (nb _ _ _ _ _) tk hr' (fun E A outer s H hr2 => bd A outer s H E f c' hr2) hNg hva hd hcd) hco (h H1 eN T1)
    exact ⟨t', ht'.nox, hq'⟩
  apply wpAny_call
  apply codeAny_mono rc
  intro r s2 hq
  match r, hq with
  | .error e, hq => exact (show False from hq).elim
  | .ok .next, hq => exact hq.elim
  | .ok .brk, hq => exact hq.elim
  | .ok .cont, hq => exact hq.elim
  | .ok (.ret w), hq => exact I1.after hq
end
end G

namespace G

/-! ### fractions in least terms -/
/-- what both are divided by -/
def byOf (n u : Int) : Int := if u < 0 then -((Nat.gcd n.natAbs u.natAbs : Nat) : Int) else ((Nat.gcd n.natAbs u.natAbs : Nat) : Int)
def rNum (n u : Int) : Int := n.fdiv (byOf n u)
def rUnd (n u : Int) : Int := u.fdiv (byOf n u)
structure Red (n u : Int) : Prop where
  pos : 0 < u
  one : Nat.gcd n.natAbs u.natAbs = 1
theorem g_pos {n u : Int} (h : u ≠ 0) : 0 < Nat.gcd n.natAbs u.natAbs := Nat.gcd_pos_of_pos_right _ (by omega)
theorem byOf_ne {n u : Int} (h : u ≠ 0) : byOf n u ≠ 0 := by
  have := g_pos (n := n) h
  unfold byOf
  split <;> omega
theorem byOf_abs {n u : Int} : (byOf n u).natAbs = Nat.gcd n.natAbs u.natAbs := by
  unfold byOf
  split <;> omega
theorem byOf_le {n u : Int} (h : u ≠ 0) : (byOf n u).natAbs ≤ u.natAbs := by
  rw [byOf_abs]
  exact Nat.le_of_dvd (by omega) (Nat.gcd_dvd_right _ _)
theorem byOf_num {n u : Int} : byOf n u ∣ n := by
  rw [← Int.natAbs_dvd_natAbs, byOf_abs]
  exact Nat.gcd_dvd_left _ _
theorem byOf_und {n u : Int} : byOf n u ∣ u := by
  rw [← Int.natAbs_dvd_natAbs, byOf_abs]
  exact Nat.gcd_dvd_right _ _
theorem fd_of {c n : Int} (hc : c ≠ 0) (h : c ∣ n) : c * n.fdiv c = n := by
  rw [Int.fdiv_eq_ediv_of_dvd h]
  exact Int.mul_ediv_cancel' h
theorem num_mul {n u : Int} (h : u ≠ 0) : byOf n u * rNum n u = n := fd_of (byOf_ne h) byOf_num
theorem und_mul {n u : Int} (h : u ≠ 0) : byOf n u * rUnd n u = u := fd_of (byOf_ne h) byOf_und
theorem red_of {n u : Int} (h : u ≠ 0) : Red (rNum n u) (rUnd n u) := by
  have h1 := num_mul (n := n) h
  have h2 := und_mul (n := n) h
  have hg := g_pos (n := n) h
  constructor
  · by_cases hu : u < 0
    · have e : byOf n u < 0 := by
        unfold byOf
        rw [if_pos hu]
        omega
      rcases Int.lt_trichotomy (rUnd n u) 0 with z | z | z
      · have := Int.mul_pos_of_neg_of_neg e z
        omega
      · rw [z, Int.mul_zero] at h2
        omega
      · exact z
    · have e : 0 < byOf n u := by
        unfold byOf
        rw [if_neg hu]
        omega
      rcases Int.lt_trichotomy (rUnd n u) 0 with z | z | z
      · have := Int.mul_neg_of_pos_of_neg e z
        omega
      · rw [z, Int.mul_zero] at h2
        omega
      · exact z
  · have e1 : n.natAbs = Nat.gcd n.natAbs u.natAbs * (rNum n u).natAbs := by
      have := congrArg Int.natAbs h1
      rw [Int.natAbs_mul, byOf_abs] at this
      exact this.symm
    have e2 : u.natAbs = Nat.gcd n.natAbs u.natAbs * (rUnd n u).natAbs := by
      have := congrArg Int.natAbs h2
      rw [Int.natAbs_mul, byOf_abs] at this
      exact this.symm
    have e3 : Nat.gcd n.natAbs u.natAbs = Nat.gcd n.natAbs u.natAbs * Nat.gcd (rNum n u).natAbs (rUnd n u).natAbs := by
      rw [← Nat.gcd_mul_left, ← e1, ← e2]
    exact Nat.eq_of_mul_eq_mul_left hg (by omega)
theorem Red.same {n u : Int} (r : Red n u) : rNum n u = n ∧ rUnd n u = u := by
  have e : byOf n u = 1 := by
    unfold byOf
    rw [r.one, if_neg (by have := r.pos; omega)]
    rfl
  unfold rNum rUnd
  rw [e]
  exact ⟨Int.fdiv_one _, Int.fdiv_one _⟩
theorem Red.neg {n u : Int} (r : Red n u) : Red (-n) u := ⟨r.pos, by rw [Int.natAbs_neg]; exact r.one⟩
theorem Red.abs {n u : Int} (r : Red n u) : Red (if n < 0 then -n else n) u := by
  split
  · exact r.neg
  · exact r
theorem red_int (n : Int) : Red n 1 := ⟨by decide, by rw [show (1 : Int).natAbs = 1 from rfl, Nat.gcd_one_right]⟩
theorem num_le {n u : Int} (h : u ≠ 0) : (rNum n u).natAbs ≤ n.natAbs := by
  have h1 := num_mul (n := n) h
  have hg := g_pos (n := n) h
  have := congrArg Int.natAbs h1
  rw [Int.natAbs_mul, byOf_abs] at this
  rw [← this]
  exact Nat.le_mul_of_pos_left _ hg
theorem und_le {n u : Int} (h : u ≠ 0) : (rUnd n u).natAbs ≤ u.natAbs := by
  have h1 := und_mul (n := n) h
  have hg := g_pos (n := n) h
  have := congrArg Int.natAbs h1
  rw [Int.natAbs_mul, byOf_abs] at this
  rw [← this]
  exact Nat.le_mul_of_pos_left _ hg
/-- one step of the law's own greatest common divisor -/
theorem gcd_step {a b : Int} (ha : 0 ≤ a) (hb : 0 < b) : Nat.gcd b.natAbs (a.fmod b).natAbs = Nat.gcd a.natAbs b.natAbs := by
  rw [Int.fmod_eq_emod_of_nonneg a (by omega)]
  obtain ⟨m, rfl⟩ := Int.eq_ofNat_of_zero_le ha
  obtain ⟨k, rfl⟩ := Int.eq_ofNat_of_zero_le (Int.le_of_lt hb)
  show Nat.gcd k ((m : Int) % (k : Int)).natAbs = Nat.gcd m k
  rw [show ((m : Int) % (k : Int)).natAbs = m % k by omega, Nat.gcd_comm k, ← Nat.gcd_rec, Nat.gcd_comm]
end G

namespace G
open PySem PySem.Spec PyProof.Rows L2 PySem.Calls

/-! ### abs and repr of instances; repr of longer data -/
section
variable {prog : Program} {w : World} {A : Around} {E : Value → Shared → Prop} {s : Shared} {K : PySem.W.Frag} {x C f : Addr} {ox : Obj} {od : Option Obj}
theorem abs_K {Q : Value → Shared → Prop} (X : K.In s.heap) (I : PySem.W.InstAt s.heap x ox C od) (hs : PySem.W.findIn K (.ref C) "__abs__" = some (some (.ref f))) (hf : PySem.W.isFn K (.ref f) = true)
    (h : wpAny (model prog w) A.in1 (call (.ref f) [.ref x]) Q E s) : wpAny (model prog w) A (call (.builtin "abs") [.ref x]) Q E s := by
  apply call_function_entry kind_abs plain_abs entry_abs (args_abs _)
  unfold Builtin.«abs»
  refine wpAny_bind (m := oneArg "abs" _) (wpAny_pure ?_)
  refine wpAny_bind (m := callSpecial? (.ref x) (Str.ofString "__abs__")) (PySem.W.special_fn X I hs (beq_iff_eq.mp hf) (wpAny_mono h (fun v s' z => ?_) fun _ _ y => y))
  exact wpAny_pure ⟨_, rfl, z⟩
end
section
variable {X : Cx} {CX : CXT} {n : Nat} {C f : Addr} {sp : Sp} {E : XK}
/-- abs(x), repr(x) of an instance -/
def rOneK (C : Addr) (sp : Sp) (E : XK) : List V → Hp → VK → Prop := fun xs H Q => ∃ a dx fs, xs = [.ref a] ∧ H a = some (.ins C dx fs) ∧ sp [.ref a] H Q E
theorem call_absK (hs : PySem.W.findIn X.K (.ref C) "__abs__" = some (some (.ref f))) (hf : PySem.W.isFn X.K (.ref f) = true) (F : FnR X.prog X.w X.K X.mg X.base CX n f sp) (hr : Room (n + 1) X.A) (hx : Passes CX X E) :
    CallR X (.builtin "abs") (rOneK C sp E) := by
  intro pins s σ H xs us Q I r h
  obtain ⟨a, dx, fs, rfl, ha, q⟩ := h
  obtain ⟨u, rfl, ru⟩ := vals1 r
  cases (show u = Value.ref a from ru)
  obtain ⟨od, mA, J, _⟩ := ins_inst I ha
  have hr1 : Room n X.A.in1 := Room.in1 hr
  exact abs_K I.kIn J hs hf (wpAny_call (SlX.run_at (us := [.ref a]) (ws := [.ref a]) F hr1 I.env0.in1 hx I (.cons rfl .nil) q))
theorem call_reprK (hs : PySem.W.findIn X.K (.ref C) "__repr__" = some (some (.ref f))) (hf : PySem.W.isFn X.K (.ref f) = true) (F : FnR X.prog X.w X.K X.mg X.base CX n f sp) (hr : Room (n + 1) X.A) (hx : Passes CX X E) :
    CallR X (.builtin "repr") (fun xs H Q => ∃ a dx fs, xs = [.ref a] ∧ H a = some (.ins C dx fs) ∧ sp [.ref a] H (fun v H' => ∃ t, v = .str t ∧ Q v H') E) := by
  intro pins s σ H xs us Q I r h
  obtain ⟨a, dx, fs, rfl, ha, q⟩ := h
  obtain ⟨u, rfl, ru⟩ := vals1 r
  cases (show u = Value.ref a from ru)
  obtain ⟨od, mA, J, _⟩ := ins_inst I ha
  obtain ⟨m, hF⟩ := I.fr
  have hr1 : Room n X.A.in1 := Room.in1 hr
  refine PySem.W.repr_K hr1.units0 hF I.ok.mod.kin J hs hf (wpAny_mono (wpAny_call (SlX.run_at (us := [.ref a]) (ws := [.ref a]) F hr1 I.env0.in1 hx I (.cons rfl .nil) q)) (fun v s' z => ?_) fun _ _ y => y)
  obtain ⟨z, H', I', rz, t, rfl, q'⟩ := z
  obtain ⟨tk, e⟩ := (show ∃ tk, v = Value.str t tk from rz)
  cases e
  exact ⟨.str t, H', I', ⟨tk, rfl⟩, q'⟩
/-- repr of data of any leaves, its length told -/
theorem call_reprL (hq : Quiet X.A) (hu : X.A.units + 64 < cLine) : CallR X (.builtin "repr") (fun xs H Q => ∃ v d, xs = [v] ∧ Da H v d ∧ d.showable = true ∧ d.depth ≤ 20 ∧ d.shown.length ≤ sizeLine ∧ Q (.str d.shown) H) := by
  intro pins s σ H xs us Q I r h
  obtain ⟨v, d, rfl, hd, hz, hk, fits, q⟩ := h
  obtain ⟨u, rfl, ru⟩ := vals1 r
  have tail : ∀ (A : Addr), u = .ref A → wpAny (model X.prog X.w) X.A (call (.builtin "repr") [u]) (EP X pins σ Q) X.xe s := by
    rintro a rfl
    obtain ⟨as, hr, hns⟩ := Da.reads I hd ru
    refine repr_of_reads' (h₀ := s.heap) hr hz (fun _ => hns) hq (by omega) (fun _ _ z => z) (fun h' t tk hk => ?_) fits
    exact ⟨.str d.shown, H, I.kept hk, ⟨_, rfl⟩, q⟩
  cases hd with
  | non => cases ru; exact P.repr_of_none ⟨.str _, H, I.tok _, ⟨_, rfl⟩, q⟩
  | bl b =>
    cases ru
    refine P.repr_of_bool ?_
    exact ⟨.str _, H, I.tok _, ⟨_, rfl⟩, q⟩
  | int i =>
    obtain ⟨t, rfl⟩ := ru
    have hz : i.natAbs.log2 < 1920 := by simpa [PyData.showable] using hz
    exact P.repr_of_int hz ⟨.str _, H, I.tok _, ⟨_, rfl⟩, q⟩
  | str x =>
    obtain ⟨t, rfl⟩ := ru
    exact P.repr_of_str ⟨.str _, H, I.tok _, ⟨_, rfl⟩, q⟩ fits
  | lst e n t => cases ru; exact tail _ rfl
  | tup e t => cases ru; exact tail _ rfl
  | dct e t => cases ru; exact tail _ rfl
end
end G

namespace G
open PySem PySem.Spec PyProof.Rows L2 SeqAt

/-! ### v == 0 of any data, dicts too -/
theorem dict_no_int (a : Addr) (xs : Array DictEntry) (k : Nat) (md : Option Addr) (zs : Array (Option Value)) (i : Int) (t : Tok) :
    Meets (Builtin.«dict.__eq__» ⟨[.ref a, .int i t], []⟩) (fun _ T st => st.heap.get? a = some { cls := .type "dict", dict := md, data := .dict xs k, slots := zs } ∧ T (.ok (.ret .notImplemented)) st) := by
  refine .of_wp fun prog w A T st z => ?_
  obtain ⟨z1, z2⟩ := z
  obtain ⟨hp, gn, dr, tk, os⟩ := st
  have no := PySem.F.sub_int_dict
  wp_walk using wpAny_loadPart' z1
  exact ⟨_, rfl, z2⟩
theorem int_no_dict (a : Addr) (xs : Array DictEntry) (k : Nat) (md : Option Addr) (zs : Array (Option Value)) (i : Int) (t : Tok) :
    Meets (Builtin.«int.__eq__» ⟨[.int i t, .ref a], []⟩) (fun _ T st => st.heap.get? a = some { cls := .type "dict", dict := md, data := .dict xs k, slots := zs } ∧ T (.ok (.ret .notImplemented)) st) := by
  refine .of_wp fun prog w A T st z => ?_
  obtain ⟨z1, z2⟩ := z
  obtain ⟨hp, gn, dr, tk, os⟩ := st
  wp_walk using wpAny_loadPart' z1, wpAny_load z1
  exact ⟨_, rfl, z2⟩
theorem rc_dict_int {A : Around} {st : Shared} {a : Addr} {o : Obj} {xs : Array DictEntry} {k : Nat} (i : Int) (t : Tok) (g : st.heap.get? a = some o) (c : o.cls = .type "dict") (dd : o.data = .dict xs k) (room : A.units < cLine) : RcAt A st (.ref a) (.int i t) false := fun prog w E Q q => by
  obtain ⟨oc, md, da, zs⟩ := o
  simp only at c dd
  subst c dd
  refine rc_eq_decline_or (k := false) ⟨_, g, rfl⟩ (typeIs_int st i t) (by decide) PySem.F.sub_int_dict PySem.F.slot_dict_eq PySem.F.slot_int_eq_refl ?_ ?_ ?_ (.inr room) q
  · exact fun T qT => call_meets PySem.F.slot_dict_eq ⟨_, g, rfl⟩ PySem.F.entry_dict_eq (PySem.F.args_dict_eq_2 _ _) (dict_no_int a xs k md zs i t) ⟨g, qT⟩
  · exact fun T qT => call_meets PySem.F.slot_int_eq_refl (typeIs_int st i t) PySem.F.entry_int_eq (PySem.F.args_int_eq_2 _ _) (int_no_dict a xs k md zs i t) ⟨g, qT⟩
  · exact fun T qT => wpAny_of_eq (rfl : isSame (.ref a) (.int i t) = pure false) qT
/-- whether data equal 0 -/
def zeroD : PyData → Bool
  | .int i => i == 0
  | .bool b => (if b then (1 : Int) else 0) == 0
  | _ => false
def rEq0 : R2 := fun x y H Q => ∃ d, y = .int 0 ∧ Da H x d ∧ Q (.bl (zeroD d)) H
theorem op_eq0 {X : Cx} (room : X.A.units + 64 < cLine) : OpR X (compareOp .Eq) rEq0 := by
  intro pins s σ H x y v u Q I rx ry h
  obtain ⟨d, rfl, hd, q⟩ := h
  obtain ⟨tk, rfl⟩ := (show ∃ tk, u = Value.int 0 tk from ry)
  have fin : ∀ b, zeroD d = b → EP X pins σ Q (.bool b) s := fun b e => ⟨.bl b, H, I, rfl, by rw [← e]; exact q⟩
  have room0 : X.A.units < cLine := by omega
  cases hd with
  | non => cases rx; exact RcAt.none_int 0 tk _ _ _ _ (fin _ rfl)
  | bl b => cases rx; exact RcAt.bool_int b 0 tk _ _ _ _ (fin _ rfl)
  | int i => obtain ⟨t, rfl⟩ := rx; exact RcAt.int_int i t 0 tk _ _ _ _ (fin _ rfl)
  | str x => obtain ⟨t, rfl⟩ := rx; exact RcAt.str_int x t 0 tk _ _ _ _ (fin _ rfl)
  | lst e n t =>
    cases rx
    obtain ⟨_, its, m, rv, ho⟩ := I.hok _ _ e
    exact RcAt.list_int 0 tk ⟨_, ho, rfl, _, rfl⟩ room0 _ _ _ _ (fin _ rfl)
  | tup e t =>
    cases rx
    obtain ⟨_, its, rv, ho⟩ := I.hok _ _ e
    exact RcAt.tuple_int 0 tk ho room0 _ _ _ _ (fin _ rfl)
  | dct e t =>
    cases rx
    obtain ⟨_, hs, vs, rel, o, es, ep, ho, hx, hd, _⟩ := I.hok _ _ e
    exact rc_dict_int 0 tk ho hx.1 hd room0 _ _ _ _ (fin _ rfl)
end G

namespace G
open PySem PySem.Spec PyProof.Rows L2 LamX

/-! ### the law's own call, where defs of the text make lambdas; entered while nothing shows itself -/
/-- an empty table of code objects -/
abbrev bareTab : Obj := { cls := .none, data := .fields #[] }
/-- the abstract heap at the entry: the script, if the text does not know it, and the tables -/
def atEntry (K : PySem.W.Frag) (a : Addr) (vs : List Value) (ns : List Int) (ts : List Addr) : Hp := fun b =>
  if b ∈ ts then some (.tbl #[]) else if b = a ∧ K.lookup a = none then some (.frz { cls := .type "list", data := .seq vs.toArray } (.lst (ns.map V.int))) else none
section
variable {K : PySem.W.Frag} {a b : Addr} {vs : List Value} {ns : List Int} {ts : List Addr}
theorem ae_tab (h : b ∈ ts) : atEntry K a vs ns ts b = some (.tbl #[]) := if_pos h
theorem ae_scr (h : a ∉ ts) (k : K.lookup a = none) : atEntry K a vs ns ts a = some (.frz { cls := .type "list", data := .seq vs.toArray } (.lst (ns.map V.int))) := (if_neg h).trans (if_pos ⟨rfl, k⟩)
theorem ae_off (h : b ∉ ts) (n : ¬ (b = a ∧ K.lookup a = none)) : atEntry K a vs ns ts b = none := (if_neg h).trans (if_neg n)
theorem ae_or : (b ∈ ts ∧ atEntry K a vs ns ts b = some (.tbl #[])) ∨ (b ∉ ts ∧ b = a ∧ K.lookup a = none ∧ atEntry K a vs ns ts b = some (.frz { cls := .type "list", data := .seq vs.toArray } (.lst (ns.map V.int)))) ∨ (b ∉ ts ∧ atEntry K a vs ns ts b = none) := by
  by_cases h1 : b ∈ ts
  · exact .inl ⟨h1, ae_tab h1⟩
  · by_cases h2 : b = a ∧ K.lookup a = none
    · exact .inr (.inl ⟨h1, h2.1, h2.2, (if_neg h1).trans (if_pos h2)⟩)
    · exact .inr (.inr ⟨h1, ae_off h1 h2⟩)
end
theorem lawCallT {P : Program} {w : World} {K : PySem.W.Frag} {mg mb : Str → Option Value} {k : Nat} {fa a : Addr} {cs : List (Addr × Addr)} {fd : FuncData} {x : Str} {sp : Sp} {s₁ : Shared} {vs : List Value} {ns : List Int}
    (KX : K.In s₁.heap) (glob : s₁.heap.Ns mainGlobals mg) (bltn : s₁.heap.Ns builtinsNs mb) (boot : ∀ x : Str, x ≠ "__name__" → mb x = bootBuiltins x) (lim : s₁.heap.NoLimit) (gens : s₁.gens = #[])
    (mods : ∃ (bm : Addr) (ob : Obj), mg "__builtins__" = some (.ref bm) ∧ bm ≠ builtinsNs ∧ s₁.heap.get? bm = some ob ∧ ob.cls = .type "module" ∧ ob.dict = some builtinsNs ∧ ob.data = .plain)
    (bare : ∀ p ∈ cs, s₁.heap.get? p.2 = some bareTab) (noK : ∀ p ∈ cs, K.lookup p.2 = none) (code : ∀ p ∈ cs, PySem.W.CodeHd s₁.heap p.1 p.2)
    (obj : s₁.heap.get? a = some { cls := .type "list", data := .seq vs.toArray }) (nums : IntsAre vs ns) (short : ns.length ≤ sizeLine) (room : Room k callerA)
    (F : ∀ base : Heap, K.In base → base.Ns mainGlobals mg → (∀ p ∈ cs, TabB base mg p.1 p.2) → Fn P w K mg base CX0 k fa fd [x] sp) (bind : ∀ (s : Shared) (u : Value), BindsTo s fd ⟨[u], []⟩ [(x, u)])
    (told : ∀ H : Hp, (∀ p ∈ cs, H p.2 = some (.tbl #[])) → SqL K H a (ns.map V.int) → sp [.ref a] H (fun v _ => v = .bl true) fun _ _ _ => False) :
    codeAny (model P w) callerA (.call (.ref fa) ⟨[.ref a], []⟩) (fun r s' => r = .ok (.ret (.bool true)) ∧ OldK s₁.heap s'.heap ∧ s'.os = s₁.os ∧ AllBare s'.gens) s₁ := by
  have rv := vals_ints nums
  have lenV := nums.length
  let ts : List Addr := cs.map (·.2)
  let H : Hp := atEntry K a vs ns ts
  have inT : ∀ p ∈ cs, p.2 ∈ ts := fun p hp => List.mem_map.mpr ⟨p, hp, rfl⟩
  have tabT : ∀ b ∈ ts, s₁.heap.get? b = some bareTab := fun b hb => by
    obtain ⟨p, hp, rfl⟩ := List.mem_map.mp hb
    exact bare p hp
  have aT : a ∉ ts := fun z => by
    have q := (tabT a z).symm.trans obj
    cases q
  have offK : ∀ {b : Addr} {o : Obj}, K.lookup b = some o → H b = none := fun {b o} e => by
    rcases ae_or (K := K) (a := a) (b := b) (vs := vs) (ns := ns) (ts := ts) with ⟨h, _⟩ | ⟨_, rfl, n, _⟩ | ⟨_, z⟩
    · obtain ⟨p, hp, rfl⟩ := List.mem_map.mp h
      rw [noK p hp] at e
      cases e
    · rw [n] at e
      cases e
    · exact z
  -- what is neither a list nor an empty table is not hidden
  have off : ∀ {b : Addr} {o : Obj}, s₁.heap.get? b = some o → (∀ its n, o.data ≠ .seq its n) → o.data ≠ .fields #[] → H b = none := fun {b o} e h1 h2 => by
    rcases ae_or (K := K) (a := a) (b := b) (vs := vs) (ns := ns) (ts := ts) with ⟨h, _⟩ | ⟨_, rfl, _, _⟩ | ⟨_, z⟩
    · obtain rfl := Option.some.inj (e.symm.trans (tabT b h))
      exact absurd rfl h2
    · obtain rfl := Option.some.inj (e.symm.trans obj)
      exact absurd rfl (h1 _ _)
    · exact z
  have offD : ∀ {b : Addr} {o : Obj} {es : Array DictEntry} {ep : Nat}, s₁.heap.get? b = some o → o.data = .dict es ep → H b = none := fun e d => off e (fun _ _ z => by rw [d] at z; cases z) fun z => by rw [d] at z; cases z
  have hok : HOk P w H s₁.heap := fun b u z => by
    rcases ae_or (K := K) (a := a) (b := b) (vs := vs) (ns := ns) (ts := ts) with ⟨h, e⟩ | ⟨_, rfl, _, e⟩ | ⟨_, e⟩
    · obtain rfl := Option.some.inj (e.symm.trans z)
      exact tabT b h
    · obtain rfl := Option.some.inj (e.symm.trans z)
      exact ⟨obj, by rw [List.length_map]; exact short, vs, _, rv, obj⟩
    · exact absurd (e.symm.trans z) (by simp)
  have seq : SqL K H a (ns.map V.int) := by
    cases hk : K.lookup a with
    | none => exact .inl (.inr ⟨_, ae_scr aT hk⟩)
    | some o =>
      obtain rfl := Option.some.inj ((KX a o hk).symm.trans obj)
      exact .inr ⟨_, vs.toArray, _, hk, rfl, rfl, rfl, by rw [List.size_toArray, lenV]; exact short, by simpa using rv⟩
  have ns0 : ∀ {b : Addr} {m : Str → Option Value}, s₁.heap.Ns b m → (hidT s₁.heap H).Ns b m := by
    rintro b m ⟨o, es, ep, e, d, r⟩
    exact ⟨o, es, ep, hidT_get e (offD e d), d, r⟩
  have in0 : K.In (hidT s₁.heap H) := fun b o e => hidT_get (KX b o e) (offK e)
  have M : Mod K mg (hidT s₁.heap H) := by
    obtain ⟨mc, l1, l2⟩ := lim
    exact ⟨in0, ns0 glob, ⟨mb, ns0 bltn, boot⟩, ⟨mc, ns0 l1, l2⟩⟩
  obtain ⟨og, eg, pg, gg, dg, _⟩ := id glob
  have TB : ∀ p ∈ cs, TabB (hidT s₁.heap H) mg p.1 p.2 := fun p hp => by
    have hp0 := bare p hp
    refine ⟨?cd, ?bm, fun z => ?_⟩
    case cd =>
      obtain ⟨o, us, f1, f2, f3, f4, f5, f6, f7, e, c1, c2, c3, rest⟩ := code p hp
      refine ⟨o, us, f1, f2, f3, f4, f5, f6, f7, hidT_get e (off e (fun _ _ z => ?_) fun z => ?_), c1, c2, c3, rest⟩
      · rw [c2] at z
        cases z
      · rw [c2] at z
        obtain rfl := Data.fields.inj z
        simp at c3
    case bm =>
      obtain ⟨bm, ob, m1, m2, m3, m4, m5, m6⟩ := mods
      refine ⟨bm, ob, m1, m2, fun z => ?_, fun z => ?_, hidT_get m3 (off m3 (fun _ _ z => by rw [m6] at z; cases z) fun z => by rw [m6] at z; cases z), m4, m5, m6⟩
      · rw [z, gg] at m3
        obtain rfl := Option.some.inj m3
        rw [dg] at m6
        cases m6
      · rw [z, hp0] at m3
        obtain rfl := Option.some.inj m3
        cases m6
    · rw [z, hp0] at gg
      obtain rfl := Option.some.inj gg
      cases dg
  have nof : ∀ b : Addr, ¬ b ∈ frs ([] : List Env) := fun b z => nomatch (show b ∈ ([] : List Addr) from z)
  have e0 : Env0 P w K mg (hidT s₁.heap H) callerA [] s₁ H := ⟨rfl, M, fun b o e => of_hidT e, Nat.le_of_eq (hidT_size _ _), trivial, fun b hb => absurd hb (nof b), hok, .of_eq gens⟩
  refine codeAny_mono ((F _ in0 (ns0 glob) TB).run callerA [] s₁ H ⟨[.ref a], []⟩ [.ref a] [.ref a] _ _ rfl room e0 (bind s₁ (.ref a)) (.cons rfl .nil) (told H (fun p hp => ae_tab (inT p hp)) seq)) ?_
  intro r s' h
  match r, h with
  | .error e, h => exact h.elim
  | .ok .next, h => exact h.elim
  | .ok .brk, h => exact h.elim
  | .ok .cont, h => exact h.elim
  | .ok (.ret u), h =>
    obtain ⟨v, H', os, allb, un, hok', ru, rfl⟩ := h
    obtain rfl : u = Value.bool true := ru
    -- an object that is no table is as it was
    have kept : ∀ b o, b ∉ ts → s₁.heap.get? b = some o → s'.heap.get? b = some o := fun b o nb e => by
      rcases ae_or (K := K) (a := a) (b := b) (vs := vs) (ns := ns) (ts := ts) with ⟨h, _⟩ | ⟨_, rfl, _, z⟩ | ⟨_, z⟩
      · exact absurd h nb
      · have s1 := (hok b _ z).1
        have s2 := (hok' b _ (un.frzs b _ _ z)).1
        exact s2.trans (s1.symm.trans e)
      · exact un.keep b o e z (nof b) (fun z => nomatch z)
    have more : ∀ b ∈ ts, ∃ ext : Array Value, s'.heap.get? b = some { cls := .none, data := .fields ext } := fun b hb => by
      obtain ⟨ext, z⟩ := un.tbls b #[] (ae_tab hb)
      exact ⟨_, hok' b _ z⟩
    refine ⟨rfl, ⟨fun b o e => ?_, fun b o e => ?_⟩, os, allb⟩
    · by_cases hb : b ∈ ts
      · obtain ⟨p, hp, rfl⟩ := List.mem_map.mp hb
        obtain ⟨ext, z⟩ := more _ hb
        obtain rfl := Option.some.inj ((bare p hp).symm.trans e)
        refine .inr (.inl ⟨((code p hp).tab (bare p hp)).isCodeTable, rfl, #[], ext, rfl, ?_⟩)
        rw [Array.empty_append]
        exact z
      · exact .inl (kept b o hb e)
    · by_cases hb : b ∈ ts
      · obtain ⟨ext, z⟩ := more b hb
        exact ⟨_, z⟩
      · exact ⟨o, kept b o hb e⟩
/-- what is to be shown of the law at the head's heap -/
def LawT (P : Program) (w : World) (K : PySem.W.Frag) (k n : Nat) (x : Str) (mg : Str → Option Value) (fa : Addr) (h : Heap) : Prop :=
  ∃ (fd : FuncData) (cs : List (Addr × Addr)) (sp : Sp), (∀ p ∈ cs, h.get? p.2 = some bareTab ∧ K.lookup p.2 = none ∧ PySem.W.CodeHd h p.1 p.2) ∧ (∀ (s : Shared) (u : Value), BindsTo s fd ⟨[u], []⟩ [(x, u)]) ∧
    (∀ (H : Hp) (a : Addr) (ns : List Int), ns.length ≤ n → (∀ p ∈ cs, H p.2 = some (.tbl #[])) → SqL K H a (ns.map V.int) → sp [.ref a] H (fun v _ => v = .bl true) fun _ _ _ => False) ∧
    ∀ base : Heap, K.In base → base.Ns mainGlobals mg → (∀ p ∈ cs, TabB base mg p.1 p.2) → Fn P w K mg base CX0 k fa fd [x] sp
/-- the tables of a text's defs are empty at the law's entry -/
def Bare (mg : Str → Option Value) (h : Heap) (nm : Str) : Prop := ∃ f o fd c T, mg nm = some (.ref f) ∧ h.get? f = some o ∧ o.data = .func fd ∧ fd.code = .ref c ∧ PySem.W.CodeHd h c T ∧ h.get? T = some bareTab
theorem walkOfT {l : PySem.W.OpenLaw} {n k : Nat} {q : Program} {loose : List Str} {XP : (Str → Option Value) → Heap → Prop} {YP : World → Heap → Prop} {d : DefRec} {K : Params → PySem.W.Frag} {x : Str} {names : List Str}
    (hn : l.most = some n) (hn2 : n ≤ sizeLine) (hdf : d.params.defaults = []) (hr : Room k callerA) (hrec : (names.all fun nm => (recsOf q).any fun e => e.name == nm) = true) (hY : ∀ (w : World) (h : Heap), YP w h → (K w.params).In h)
    (F : ∀ (w : World) (mg : Str → Option Value) (fa : Addr) (h : Heap), (K w.params).In h → h.Ns mainGlobals mg → mg d.name = some (.ref fa) → (∀ nm ∈ names, Bare mg h nm) → LawT l.prog w (K w.params) k n x mg fa h) :
    PySem.W.WalkO q loose XP YP l.row.toRowW d [] (fun f vs => PySem.call f vs) := by
  apply Att.attach_call hn hdf
  intro w s₀ s₁ mg mb fa o pm cd doc a vs ns G Y ho hd hcd hmg hobj hints hlen hg
  have KX := hY w _ Y
  have tabs : ∀ nm ∈ names, Bare mg s₁.heap nm := fun nm hnm => by
    obtain ⟨r, hm, e⟩ := List.any_eq_true.mp (List.all_eq_true.mp hrec nm hnm)
    obtain ⟨f, o', fd', c, T, t1, t2, t3, t4, t5, t6⟩ := G.T.tab r hm
    rw [beq_iff_eq.mp e] at t1
    exact ⟨f, o', fd', c, T, t1, t2, t3, t4, PySem.W.CodeHd.of t5 t6, t6.2⟩
  obtain ⟨fd, cs, sp, facts, hb, told, hF⟩ := F w mg fa _ KX G.T.g hmg tabs
  exact lawCallT KX G.T.g G.T.b G.T.builtins G.T.nolimit hg G.T.bmain (fun p hp => (facts p hp).1) (fun p hp => (facts p hp).2.1) (fun p hp => (facts p hp).2.2) hobj hints (Nat.le_trans hlen hn2) hr hF hb fun H hH hS => told H a ns hlen hH hS
end G

namespace G
open PySem PySem.Spec PyProof.Rows L2 ClX

/-! ### a static method, called through its class -/
structure SMet (K : PySem.W.Frag) (C : Addr) (m : Str) (g : Addr) : Prop where
  rd : ∃ mc p rest, CRead K C mc ∧ PySem.W.findCls K (.ref C) mc m = some (.get (.builtin "staticmethod.__get__") (.ref p) .none (.ref C)) ∧ PySem.W.recIn K p "staticmethod" = some (.ref g :: rest)
  kp : PySem.W.keepIn K (.ref g) = true
/-- C.m(e, ..) -/
def tSMeth (C : Addr) (sp : Sp) (E : XK) (ta : TE) (t : TA) : TE := fun σ H Q => ta σ H fun x H1 => x = .ref C ∧ t σ H1 fun vs H2 => sp vs H2 Q E
section
variable {X : Cx} {CX : CXT} {k : Nat} {C g : Addr} {sp : Sp} {E : XK} {o e : Expr} {es : List Expr} {m : Str} {pos apos : Pos} {ta : TE} {t : TA} {pl : Sem Bool}
theorem pe_smeth (he : PE X o ta) (c : SMet X.K C m g) (F : FnR X.prog X.w X.K X.mg X.base CX k g sp) (hr : Room k X.A) (hx : Passes CX X E) (ha : PA X (e :: es) t)
    (hst : starEach (e :: es) X.env = (false, eval e X.env) :: starEach es X.env := by rfl) (hpl : (backTo pos (starEach es X.env)).any (·.1) = false := by rfl)
    (ht : eval (.Call (.Attribute o m apos) (e :: es) [] pos) X.env = (do
      let ov ← eval o X.env
      standAt apos.atName
      let (f, first) ← holding [ov] (getMethod ov m pl)
      callWith pos f first (backTo pos (starEach (e :: es) X.env)) (backToKw pos (keywordEach [] X.env))) := by rfl) :
    PE X (.Call (.Attribute o m apos) (e :: es) [] pos) (tSMeth C sp E ta t) := by
  constructor
  intro pins s σ H Q I h
  apply PySem.W.methodCall_KW (pl := pl) _ ht
  apply thn (he.run pins s σ H _ I h)
  rintro u s1 ⟨x, H1, I1, rx, rfl, q⟩
  cases (show u = Value.ref C from rx)
  obtain ⟨mc, p, rest, r, e1, e2⟩ := c.rd
  apply PySem.W.method_cls I1.kIn r.ga
  apply PySem.W.cls_bind I1.kIn r.rd e1
  apply wpAny_call
  apply PySem.W.sm_get (s := { s1 with toks := s1.toks + 1 }) I1.kIn e2
  apply PySem.W.handed_on rfl
  have I2 := I1.tok (s1.toks + 1)
  apply PySem.W.callWith_K (h₀ := X.base) (first := []) I2.ok.mod.kin c.kp _ hst hpl
  apply thn (ha.run pos pins _ σ H1 _ I2 q)
  rintro us s3 ⟨vs, H2, I3, rv, q2⟩
  exact ⟨I3.kIn, wpAny_call (run_fnR F hr hx I3 rv q2)⟩
end
end G

namespace G
open PySem SX NumText

/-! ### texts of numbers, by their signs -/
def dig (c : Nat) : Bool := decide (48 ≤ c) && decide (c ≤ 57)
/-- figures alone, one at least -/
def figs (l : List Nat) : Bool := !l.isEmpty && l.all dig
theorem figs_of {l : List Nat} (h : figs l = true) : l ≠ [] ∧ AllDigits l := by
  obtain ⟨h1, h2⟩ := Bool.and_eq_true_iff.mp h
  refine ⟨(fun z => by rw [z] at h1; exact absurd h1 (by simp)), fun c hc => ?_⟩
  have z := List.all_eq_true.mp h2 c hc
  obtain ⟨z1, z2⟩ := Bool.and_eq_true_iff.mp z
  exact ⟨of_decide_eq_true z1, of_decide_eq_true z2⟩
theorem figs_mk {l : List Nat} (h1 : l ≠ []) (h2 : AllDigits l) : figs l = true := by
  refine Bool.and_eq_true_iff.mpr ⟨?_, List.all_eq_true.mpr fun c hc => ?_⟩
  · cases l
    · exact absurd rfl h1
    · rfl
  · obtain ⟨a, b⟩ := h2 c hc
    exact Bool.and_eq_true_iff.mpr ⟨decide_eq_true a, decide_eq_true b⟩
theorem ascii_S (l : List Nat) : Txt.isascii (S l) = l.all (· < 128) := by
  unfold Txt.isascii
  simp [S]
theorem dig_uni {c : Nat} (h : c < 128) : Unicode.isDigit c = dig c := by
  have e := PySem.W.os_isdigit h
  have e2 : Txt.isdigit ⟨#[c]⟩ = Unicode.isDigit c := by
    unfold Txt.isdigit
    simp [Str.length]
  rw [← e2, e]
  rfl
theorem isdigit_S {l : List Nat} (h : l.all (· < 128) = true) : Txt.isdigit (S l) = figs l := by
  unfold Txt.isdigit figs
  have e1 : decide ((S l).length > 0) = !l.isEmpty := by
    rw [S_len]
    cases l <;> simp
  have e2 : (S l).cps.all Unicode.isDigit = l.all dig := by
    rw [← Array.all_toList]
    show l.all Unicode.isDigit = l.all dig
    have : ∀ m : List Nat, m.all (· < 128) = true → m.all Unicode.isDigit = m.all dig := by
      intro m
      induction m with
      | nil => intro _; rfl
      | cons c r ih =>
        intro hm
        obtain ⟨a, b⟩ := Bool.and_eq_true_iff.mp (show (decide (c < 128) && r.all (· < 128)) = true from hm)
        rw [List.all_cons, List.all_cons, ih b, dig_uni (of_decide_eq_true a)]
    exact this l h
  rw [e1, e2]
theorem figs_ascii {l : List Nat} (h : figs l = true) : l.all (· < 128) = true := List.all_eq_true.mpr fun c hc => by
  have := (figs_of h).2 c hc
  exact decide_eq_true (by omega)
theorem sub_dash (l : List Nat) : Builtin.Str.subAt (S l) (S [45]) 0 = decide (l.head? = some 45) := by
  rw [PySem.StrLaws.subAt_eq]
  show ((l.drop 0).take 1 == [45]) = _
  cases l with
  | nil => rfl
  | cons c r =>
    rw [List.drop_zero]
    show ([c] == [45]) = decide (some c = some 45)
    by_cases h : c = 45
    · rw [h]; rfl
    · have h1 : ([c] == [45]) = false := by simpa using h
      have h2 : decide (some c = some 45) = false := by simpa using h
      rw [h1, h2]
theorem starts_dash (l : List Nat) : Txt.startswith (S l) (S [45]) = decide (l.head? = some 45) := by
  unfold Txt.startswith
  rw [sub_dash, S_len, S_len]
  cases l with
  | nil => rfl
  | cons c r =>
    have : decide (0 + ([45] : List Nat).length ≤ (c :: r).length) = true := decide_eq_true (by simp)
    rw [this, Bool.true_and]
/-- without a dash ahead -/
def bare (l : List Nat) : List Nat := if l.head? = some 45 then l.tail else l
theorem strSub_S (l : List Nat) (i j : Nat) : Builtin.Str.strSub (S l) i j = S ((l.drop i).take (j - i)) := by
  refine TL.ext_tl ?_
  show ((S l).cps.extract i j).toList = (l.drop i).take (j - i)
  rw [Array.toList_extract]
theorem bare_S (l : List Nat) : Txt.removeprefix (S l) (S [45]) = S (bare l) := by
  unfold Txt.removeprefix bare
  rw [sub_dash]
  by_cases h : l.head? = some 45
  · rw [decide_eq_true h, if_pos rfl, if_pos h]
    cases l with
    | nil => cases h
    | cons c r =>
      show Txt.affix (S (c :: r)) (some ((S [45]).length, (S (c :: r)).length)) = S r
      unfold Txt.affix
      rw [S_len, S_len]
      have : ¬ ((c :: r).length - ([45] : List Nat).length == (c :: r).length) = true := by simp
      show (if ((c :: r).length - ([45] : List Nat).length == (c :: r).length) = true then S (c :: r) else Builtin.Str.strSub (S (c :: r)) ([45] : List Nat).length (c :: r).length) = S r
      rw [if_neg this, strSub_S]
      simp
  · rw [decide_eq_false h, if_neg h]
    rfl
/-- filled up with noughts to so many -/
def filled (k : Nat) (l : List Nat) : List Nat := List.replicate (k - l.length) 48 ++ l
theorem filled_len {k : Nat} {l : List Nat} (h : l.length ≤ k) : (filled k l).length = k := by
  unfold filled
  rw [List.length_append, List.length_replicate]
  omega
theorem zfill_S {l : List Nat} {k : Nat} (hf : figs l = true) (h : l.length ≤ k) : Txt.zfill (S l) (k : Int) = S (filled k l) := by
  unfold Txt.zfill
  rw [S_len]
  obtain ⟨ne, ad⟩ := figs_of hf
  by_cases e : (k : Int) ≤ (l.length : Int)
  · rw [if_pos e]
    unfold filled
    rw [show k - l.length = 0 by omega]
    rfl
  · rw [if_neg e]
    unfold zfilled filled
    have e2 : ((k : Int).toNat - l.length) = k - l.length := by omega
    rw [e2]
    cases l with
    | nil => exact absurd rfl ne
    | cons c r =>
      obtain ⟨c1, c2⟩ := ad.head
      have z : (S (c :: r)).cps[0]? = some c := rfl
      rw [z]
      have fin : Builtin.Str.padded (S (c :: r)) (k - (c :: r).length) 0 48 = S (List.replicate (k - (c :: r).length) 48 ++ c :: r) := by
        refine TL.ext_tl ?_
        show (Array.replicate (k - (c :: r).length) 48 ++ (S (c :: r)).cps ++ Array.replicate 0 48).toList = _
        simp [S]
      split
      · rename_i h43
        obtain rfl := Option.some.inj h43
        omega
      · rename_i h45
        obtain rfl := Option.some.inj h45
        omega
      · exact fin
theorem val_zeros : ∀ (k : Nat) (l : List Nat), digitsVal (List.replicate k 48 ++ l) = digitsVal l
  | 0, l => rfl
  | k + 1, l => by
    show List.foldl _ 0 _ = _
    rw [List.replicate_succ, List.cons_append, List.foldl_cons]
    exact val_zeros k l
theorem filled_val (k : Nat) (l : List Nat) : digitsVal (filled k l) = digitsVal l := val_zeros _ _
theorem filled_digits {k : Nat} {l : List Nat} (h : AllDigits l) : AllDigits (filled k l) := fun c hc => by
  rcases List.mem_append.mp hc with z | z
  · rw [(List.mem_replicate.mp z).2]
    exact ⟨by decide, by decide⟩
  · exact h c z
theorem int_filled {k : Nat} {l : List Nat} (hf : figs l = true) (hk : l.length ≤ k) (h1 : k ≤ 640) : intText? (S (filled k l)) = some ((digitsVal l : Nat) : Int) := by
  obtain ⟨ne, ad⟩ := figs_of hf
  have e := intText_digits (x := S (filled k l)) (filled_digits ad) (fun z => by
    have : (filled k l).length = 0 := by rw [show filled k l = [] from z]; rfl
    rw [filled_len hk] at this
    cases l
    · exact ne rfl
    · simp at hk; omega) (by rw [S_len, filled_len hk]; omega)
  rw [e]
  show some ((digitsVal (filled k l) : Nat) : Int) = _
  rw [filled_val]
theorem int_figs {l : List Nat} (hf : figs l = true) (hk : l.length ≤ 640) : intText? (S l) = some ((digitsVal l : Nat) : Int) := by
  obtain ⟨ne, ad⟩ := figs_of hf
  exact intText_digits (x := S l) ad ne (by rw [S_len]; omega)
theorem val_lt : ∀ (l : List Nat) (a : Nat), AllDigits l → l.foldl (fun acc c => acc * 10 + (c - 48)) a < (a + 1) * 10 ^ l.length
  | [], a, _ => by simp
  | c :: r, a, h => by
    obtain ⟨c1, c2⟩ := h.head
    have z := val_lt r (a * 10 + (c - 48)) h.tail
    rw [List.foldl_cons]
    refine Nat.lt_of_lt_of_le z ?_
    rw [List.length_cons, Nat.pow_succ, Nat.mul_comm (10 ^ r.length) 10, ← Nat.mul_assoc]
    exact Nat.mul_le_mul_right _ (by omega)
theorem digitsVal_lt {l : List Nat} (h : AllDigits l) : digitsVal l < 10 ^ l.length := by
  have z := val_lt l 0 h
  rw [Nat.zero_add, Nat.one_mul] at z
  exact z
/-! ### the text of an integer, of a fraction -/
theorem S_cat_of (t : String) : Str.ofString ("-" ++ t) = S [45] ++ Str.ofString t := by
  refine TL.ext_tl ?_
  rw [TL.tl_append, PySem.Str.ofString_eq_toList, PySem.Str.ofString_eq_toList]
  show (List.map Char.toNat ("-" ++ t).toList) = [45] ++ List.map Char.toNat t.toList
  rw [String.toList_append, List.map_append]
  rfl
def intL (i : Int) : List Nat := if i < 0 then 45 :: TL.numL i.natAbs else TL.numL i.natAbs
theorem int_L (i : Int) : Str.ofString (toString i) = S (intL i) := by
  unfold intL
  by_cases h : i < 0
  · rw [if_pos h]
    obtain ⟨n, rfl⟩ : ∃ n : Nat, i = Int.negSucc n := ⟨(-i - 1).toNat, by omega⟩
    have e : toString (Int.negSucc n) = "-" ++ toString (n + 1) := rfl
    rw [e]
    have e2 : Str.ofString ("-" ++ toString (n + 1)) = S [45] ++ Str.ofString (toString (((n + 1 : Nat)) : Int)) := by
      have t : toString (((n + 1 : Nat)) : Int) = toString (n + 1) := rfl
      rw [t, S_cat_of]
    rw [e2, num_S, S_cat]
    rfl
  · rw [if_neg h]
    obtain ⟨n, rfl⟩ := Int.eq_ofNat_of_zero_le (show 0 ≤ i by omega)
    exact num_S n
/-- n / u -/
def ratL (n u : Int) : List Nat := if u = 1 then intL n else intL n ++ 47 :: intL u
theorem numL_figs (n : Nat) : figs (TL.numL n) = true := figs_mk (TL.numL_ne n) (TL.numL_digits n)
theorem bare_int (n : Int) : bare (intL n) = TL.numL n.natAbs := by
  unfold bare intL
  by_cases h : n < 0
  · rw [if_pos h]
    rfl
  · rw [if_neg h, if_neg]
    intro z
    have hne := TL.numL_ne n.natAbs
    cases e : TL.numL n.natAbs with
    | nil => exact hne e
    | cons c r =>
      rw [e] at z
      obtain rfl := Option.some.inj (show some c = some 45 from z)
      have := TL.numL_digits n.natAbs 45 (by rw [e]; exact List.mem_cons_self ..)
      omega
theorem head_int (n : Int) : (decide ((intL n).head? = some 45) : Bool) = decide (n < 0) := by
  unfold intL
  by_cases h : n < 0
  · rw [if_pos h, decide_eq_true h]
    rfl
  · rw [if_neg h, decide_eq_false h]
    refine decide_eq_false fun z => ?_
    cases e : TL.numL n.natAbs with
    | nil => exact TL.numL_ne _ e
    | cons c r =>
      rw [e] at z
      obtain rfl := Option.some.inj (show some c = some 45 from z)
      have := TL.numL_digits n.natAbs 45 (by rw [e]; exact List.mem_cons_self ..)
      omega
theorem intL_mem {n : Int} {c : Nat} (h : c ∈ intL n) : c = 45 ∨ (48 ≤ c ∧ c ≤ 57) := by
  unfold intL at h
  split at h
  · rcases List.mem_cons.mp h with z | z
    · exact .inl z
    · exact .inr (TL.numL_digits _ c z)
  · exact .inr (TL.numL_digits _ c h)
theorem int_free {n : Int} {c : Nat} (h : c ≠ 45) (h2 : c < 48 ∨ 57 < c) : c ∉ intL n := fun z => by
  rcases intL_mem z with e | ⟨a, b⟩
  · exact h e
  · omega
/-- no nought ahead of another figure -/
theorem num_lead : ∀ (n : Nat), (TL.numL n).head? = some 48 → n = 0 := fun n => by
  induction n using Nat.strongRecOn with
  | ind n ih =>
    intro h
    by_cases hn : n < 10
    · rw [TL.numL_lt hn] at h
      have := Option.some.inj h
      omega
    · rw [TL.numL_step (by omega)] at h
      have hne := TL.numL_ne (n / 10)
      cases e : TL.numL (n / 10) with
      | nil => exact absurd e hne
      | cons c r =>
        rw [e, List.cons_append] at h
        have h' : (TL.numL (n / 10)).head? = some 48 := by rw [e]; exact h
        have := ih (n / 10) (by omega) h'
        omega
end G

namespace G
open PySem SX NumText

/-! ### texts of fractions: how they come apart -/
theorem split_at (c : Nat) (l : List Nat) : c ∉ l ∨ ∃ p q, l = p ++ c :: q ∧ c ∉ p := by
  by_cases h : c ∈ l
  · exact .inr (List.eq_append_cons_of_mem h)
  · exact .inl h
theorem part_none {c : Nat} {l : List Nat} (h : c ∉ l) : Txt.partition (S l) (S [c]) = (S l, S [], S []) := partition_none (by simp) (par_head_none h)
theorem part_some {c : Nat} {p q : List Nat} (h : c ∉ p) : Txt.partition (S (p ++ c :: q)) (S [c]) = (S p, S [c], S q) := partition_some (by simp) (par_head (sep := []) q h)
theorem spl_none {c : Nat} {l : List Nat} (h : c ∉ l) : TL.spl [c] 0 [] l = [l] := TL.spl_last1 h
theorem spl_some {c : Nat} {p q : List Nat} (h : c ∉ p) : TL.spl [c] 0 [] (p ++ c :: q) = p :: TL.spl [c] 0 [] q := TL.spl_part1 (S := []) h
theorem spl_ne (c : Nat) (l : List Nat) : TL.spl [c] 0 [] l ≠ [] := by
  rcases split_at c l with h | ⟨p, q, rfl, h⟩
  · rw [spl_none h]; simp
  · rw [spl_some h]; simp
theorem spl_one {c : Nat} {l a : List Nat} (h : TL.spl [c] 0 [] l = [a]) : l = a := by
  rcases split_at c l with n | ⟨p, q, rfl, n⟩
  · rw [spl_none n] at h
    exact (List.cons.inj h).1
  · rw [spl_some n] at h
    exact absurd (List.cons.inj h).2 (spl_ne c q)
theorem spl_two {c : Nat} {l a b : List Nat} (h : TL.spl [c] 0 [] l = [a, b]) : l = a ++ c :: b := by
  rcases split_at c l with n | ⟨p, q, rfl, n⟩
  · rw [spl_none n] at h
    exact absurd (List.cons.inj h).2 (by simp)
  · rw [spl_some n] at h
    obtain ⟨e1, e2⟩ := List.cons.inj h
    rw [e1, spl_one e2]
theorem spl_len (c : Nat) : ∀ (k : Nat) (l : List Nat), l.length ≤ k → (TL.spl [c] 0 [] l).length ≤ l.length + 1 ∧ ∀ w ∈ TL.spl [c] 0 [] l, w.length ≤ l.length := fun k => by
  induction k with
  | zero =>
    intro l hl
    have e : l = [] := List.length_eq_zero_iff.mp (by omega)
    subst e
    rw [TL.spl_nil]
    exact ⟨by simp, fun w hw => by rw [List.mem_singleton.mp hw]; exact Nat.le_refl _⟩
  | succ k ih =>
    intro l hl
    rcases split_at c l with n | ⟨p, q, rfl, n⟩
    · rw [spl_none n]
      exact ⟨by simp, fun w hw => by rw [List.mem_singleton.mp hw]; exact Nat.le_refl _⟩
    · rw [spl_some n]
      simp only [List.length_append, List.length_cons] at hl ⊢
      obtain ⟨h1, h2⟩ := ih q (by omega)
      refine ⟨by omega, fun w hw => ?_⟩
      rcases List.mem_cons.mp hw with e | e
      · rw [e]; omega
      · have := h2 w e; omega
/-- the text is that of a fraction -/
def IsRat (l : List Nat) (n u : Int) : Prop := Red n u ∧ l = ratL n u
theorem intL_pos {u : Int} (h : 0 < u) : intL u = TL.numL u.natAbs := if_neg (by omega)
theorem ratL_one (n : Int) : ratL n 1 = intL n := if_pos rfl
theorem ratL_two {n u : Int} (h : u ≠ 1) : ratL n u = intL n ++ 47 :: intL u := if_neg h
theorem no47 (n : Int) : (47 : Nat) ∉ intL n := int_free (by decide) (.inl (by decide))
theorem no32 (n : Int) : (32 : Nat) ∉ intL n := int_free (by decide) (.inl (by decide))
theorem rat32 (n u : Int) : (32 : Nat) ∉ ratL n u := by
  unfold ratL
  split
  · exact no32 n
  · intro z
    rcases List.mem_append.mp z with e | e
    · exact no32 n e
    · rcases List.mem_cons.mp e with e | e
      · omega
      · exact no32 u e
/-- without a stroke -/
theorem rat_plain {l : List Nat} {n u : Int} (h : IsRat l n u) (f : (47 : Nat) ∉ l) : u = 1 ∧ l = intL n := by
  obtain ⟨r, rfl⟩ := h
  by_cases e : u = 1
  · exact ⟨e, by rw [e, ratL_one]⟩
  · rw [ratL_two e] at f
    exact absurd (List.mem_append_right _ (List.mem_cons_self ..)) f
/-- with one -/
theorem rat_stroke {p q : List Nat} {n u : Int} (h : IsRat (p ++ 47 :: q) n u) (f : (47 : Nat) ∉ p) : u ≠ 1 ∧ p = intL n ∧ q = TL.numL u.natAbs := by
  obtain ⟨r, e⟩ := h
  by_cases e1 : u = 1
  · rw [e1, ratL_one] at e
    exact absurd (by rw [← e]; exact List.mem_append_right _ (List.mem_cons_self ..)) (no47 n)
  · rw [ratL_two e1] at e
    have z := (par_head (sep := []) q f).symm.trans ((congrArg (TL.par [47] []) e).trans (par_head (sep := []) (intL u) (no47 n)))
    injection z with z
    injection z with z1 z2
    exact ⟨e1, z1, by rw [z2, intL_pos r.pos]⟩
theorem intL_inj {a b : Int} (h : intL a = intL b) : a = b := by
  have h1 := bare_int a
  have h2 := bare_int b
  rw [h] at h1
  have e1 := TL.numL_inj (h1.symm.trans h2)
  have e2 := head_int a
  rw [h, head_int b] at e2
  have e3 : (b < 0) ↔ (a < 0) := by
    constructor
    · intro z; exact of_decide_eq_true (e2.symm.trans (decide_eq_true z))
    · intro z; exact of_decide_eq_true (e2.trans (decide_eq_true z))
  omega
theorem isRat_inj {l : List Nat} {n u m t : Int} (h : IsRat l n u) (h' : IsRat l m t) : n = m ∧ u = t := by
  rcases split_at 47 l with f | ⟨p, q, rfl, f⟩
  · obtain ⟨e1, e2⟩ := rat_plain h f
    obtain ⟨e3, e4⟩ := rat_plain h' f
    exact ⟨intL_inj (e2.symm.trans e4), by rw [e1, e3]⟩
  · obtain ⟨_, e1, e2⟩ := rat_stroke h f
    obtain ⟨_, e3, e4⟩ := rat_stroke h' f
    have := TL.numL_inj (e2.symm.trans e4)
    have := h.1.pos
    have := h'.1.pos
    exact ⟨intL_inj (e1.symm.trans e3), by omega⟩
theorem numL_le {n k : Nat} (hk : 0 < k) (h : n < 10 ^ k) : (TL.numL n).length ≤ k := TL.numL_len hk h
theorem intL_le {n : Int} {k : Nat} (hk : 0 < k) (h : n.natAbs < 10 ^ k) : (intL n).length ≤ k + 1 := by
  have := numL_le hk h
  unfold intL
  split
  · rw [List.length_cons]; omega
  · omega
theorem ratL_le {n u : Int} {k j : Nat} (hk : 0 < k) (hj : 0 < j) (h : n.natAbs < 10 ^ k) (h' : u.natAbs < 10 ^ j) : (ratL n u).length ≤ k + j + 3 := by
  have h1 := intL_le hk h
  have h2 := intL_le hj h'
  unfold ratL
  split
  · omega
  · rw [List.length_append, List.length_cons]; omega
theorem digits_small {l : List Nat} {k : Nat} (h : figs l = true) (hl : l.length ≤ k) : digitsVal l < 10 ^ k := Nat.lt_of_lt_of_le (digitsVal_lt (figs_of h).2) (Nat.pow_le_pow_right (by decide) hl)
/-! ### the law's own reading of figures -/
def figN (w : List Nat) : Int := if figs w = true ∧ ¬ (w.head? = some 48 ∧ w ≠ [48]) then ((digitsVal w : Nat) : Int) else -1
theorem figN_num (n : Nat) : figN (TL.numL n) = (n : Int) := by
  have h : ¬ ((TL.numL n).head? = some 48 ∧ TL.numL n ≠ [48]) := by
    rintro ⟨h1, h2⟩
    have := num_lead n h1
    subst this
    exact h2 (TL.numL_lt (by decide))
  unfold figN
  rw [if_pos ⟨numL_figs n, h⟩, TL.numL_val]
theorem figN_le {w : List Nat} {k : Nat} (hk : 0 < k) (h : w.length ≤ k) : (figN w).natAbs < 10 ^ k := by
  unfold figN
  split
  · rename_i c
    have := digits_small c.1 h
    omega
  · exact Nat.one_lt_pow (by omega) (by decide)
theorem bare_len (l : List Nat) : (bare l).length ≤ l.length := by
  unfold bare
  split
  · rw [List.length_tail]; omega
  · exact Nat.le_refl _
theorem in_fig (c : Nat) : decide (c ∈ (Str.cps "0123456789").toList) = dig c := by
  have e : (Str.cps "0123456789").toList = [48, 49, 50, 51, 52, 53, 54, 55, 56, 57] := by rfl
  rw [e]
  unfold dig
  by_cases h : 48 ≤ c ∧ c ≤ 57
  · rw [decide_eq_true h.1, decide_eq_true h.2]
    refine decide_eq_true ?_
    simp only [List.mem_cons, List.not_mem_nil, or_false]
    omega
  · have : (decide (48 ≤ c) && decide (c ≤ 57)) = false := by
      rw [Bool.and_eq_false_iff]
      by_cases h1 : 48 ≤ c
      · exact .inr (decide_eq_false fun z => h ⟨h1, z⟩)
      · exact .inl (decide_eq_false h1)
    rw [this]
    refine decide_eq_false fun z => h ?_
    simp only [List.mem_cons, List.not_mem_nil, or_false] at z
    omega
/-! ### slices -/
theorem slice_ab (m : List Nat) (i j : Nat) : Txt.slice (S m) (some (i : Int)) (some (j : Int)) = S ((m.drop (min i m.length)).take (min j m.length - min i m.length)) := by
  rw [← C8.cutS_slice]
  unfold L2.cutS
  rw [HT.sIx_nat, HT.sIx_nat, S_len]
theorem emp_cat (m : List Nat) : Str.empty ++ S m = S m := S_cat [] m
theorem stroke_S : Str.ofString "/" = S [47] := rfl
theorem blank_S : Str.ofString " " = S [32] := rfl
end G
namespace G
open PySem SX NumText
/-! ### short texts of plain signs -/
def TxtOk (l : List Nat) (k : Nat) : Prop := l.length ≤ k ∧ ∀ c ∈ l, c < 128
theorem TxtOk.mono {l : List Nat} {j k : Nat} (h : TxtOk l j) (hk : j ≤ k) : TxtOk l k := ⟨Nat.le_trans h.1 hk, h.2⟩
theorem TxtOk.app {l m : List Nat} {j k n : Nat} (h : TxtOk l j) (h' : TxtOk m k) (hn : j + k ≤ n) : TxtOk (l ++ m) n := ⟨by rw [List.length_append]; have := h.1; have := h'.1; omega, fun c hc => (List.mem_append.mp hc).elim (h.2 c) (h'.2 c)⟩
theorem TxtOk.take {l : List Nat} {k : Nat} (h : TxtOk l k) (i : Nat) : TxtOk (l.take i) (min i l.length) := ⟨by rw [List.length_take]; omega, fun c hc => h.2 c (List.mem_of_mem_take hc)⟩
theorem TxtOk.drop {l : List Nat} {k : Nat} (h : TxtOk l k) (i : Nat) : TxtOk (l.drop i) (l.length - i) := ⟨by rw [List.length_drop]; omega, fun c hc => h.2 c (List.mem_of_mem_drop hc)⟩
theorem txt_of (l : List Nat) (k : Nat) (h : (decide (l.length ≤ k) && l.all (· < 128)) = true) : TxtOk l k := by
  obtain ⟨h1, h2⟩ := Bool.and_eq_true_iff.mp h
  exact ⟨of_decide_eq_true h1, fun c hc => of_decide_eq_true (List.all_eq_true.mp h2 c hc)⟩
theorem slice_end {l : List Nat} {k : Nat} (h : TxtOk l k) : ∃ r, Txt.slice (S l) (some (-1)) none = S r ∧ TxtOk r 1 := by
  by_cases e : l = []
  · subst e
    exact ⟨[], rfl, by simp, fun c hc => nomatch hc⟩
  · refine ⟨_, slice_last e, ?_, fun c hc => h.2 c (List.mem_of_mem_drop hc)⟩
    rw [List.length_drop]
    omega
theorem slice_one {l : List Nat} {k : Nat} (h : TxtOk l k) (j : Nat) : ∃ r, Txt.slice (S l) (some (j : Int)) (some ((j : Int) + 1)) = S r ∧ TxtOk r 1 := by
  refine ⟨_, slice_ab l j (j + 1), ?_, fun c hc => h.2 c (List.mem_of_mem_drop (List.mem_of_mem_take hc))⟩
  rw [List.length_take]
  omega
theorem int_txt (n : Int) : ∀ c ∈ intL n, c < 128 := fun c hc => by
  rcases intL_mem hc with e | e <;> omega
theorem rat_txt (n u : Int) : ∀ c ∈ ratL n u, c < 128 := fun c hc => by
  unfold ratL at hc
  split at hc
  · exact int_txt n c hc
  · rcases List.mem_append.mp hc with e | e
    · exact int_txt n c e
    · rcases List.mem_cons.mp e with e | e
      · omega
      · exact int_txt u c e
end G

namespace G
open PySem PySem.Spec PyProof.Rows L2

/-! ### a list comprehension without tests whose element makes new things at most -/
/-- all but lists stays -/
def NoL (H H' : Hp) : Prop := ∀ b o, H b = some o → (∀ zs, o ≠ .lst zs) → H' b = some o
theorem NoL.same {H H' : Hp} (S : Same H H') : NoL H H' := fun b o e _ => S b o e
theorem noL_upd {H : Hp} {D : Addr} {xs ys : List V} (h : H D = some (.lst xs)) : NoL H (upd H D (.lst ys)) := fun b o e n => by
  have : b ≠ D := fun z => by
    rw [z, h] at e
    exact n xs (Option.some.inj e).symm
  rw [upd_ne this]
  exact e
theorem lc_rel {K : PySem.W.Frag} {a : Addr} {xs : List V} {i0 : Nat} {te : TE} {vs : List Nat} {σ : L2.St} {H1 : Hp} {D : Addr} {Qd : Hp → Prop} (R : V → V → Hp → Prop) (hR : ∀ x y H H', NoL H H' → R x y H → R x y H')
    (hD : H1 D = none) (ha : SqL K H1 a xs) (hz : xs.length < sizeLine) (hw : ∀ x, wipe ((wipe σ vs).set i0 (some x)) vs = wipe σ vs)
    (he : ∀ x ∈ xs, ∀ H' (Q : VK), Same H1 H' → (∀ y H'', Same H' H'' → R x y H'' → Q y H'') → te ((wipe σ vs).set i0 (some x)) H' Q)
    (hd : ∀ ys H', Same H1 H' → H' D = some (.lst ys) → Paired (fun x y => R x y H') xs ys → Qd H') :
    ∃ W : Nat → Nat → Hp → Prop, (∃ m, W 0 m (upd H1 D (.lst []))) ∧ ∀ i m H, W i m H →
      ((Itl K a).stop i H ∧ Qd H) ∨ ((Itl K a).go i H ∧ ∃ Nx : Hp → Prop, (∀ H', Nx H' → ∃ m', m' < m ∧ W (i + 1) m' H') ∧ ∀ x H', (Itl K a).yld i H x H' → gName i0 x (wipe σ vs) H' fun σ2 H2 => wipe σ2 vs = wipe σ vs ∧ tYes σ2 H2 fun b H3 =>
        if b = true then te σ2 H3 fun y H4 => ∃ acc, H4 D = some (.lst acc) ∧ acc.length < sizeLine ∧ Nx (upd H4 D (.lst (acc ++ [y]))) else Nx H3) := by
  refine lc_list (K := K) (a := a) (xs := xs) (fun i H' => Same H1 H' ∧ ∃ ys, H' D = some (.lst ys) ∧ Paired (fun x y => R x y H') (xs.take i) ys) ⟨same_new hD, [], upd_same, by rw [List.take_zero]; exact .nil⟩ ?_ ?_ ?_
  · rintro i H' hi ⟨S, _⟩
    exact S.seq ha
  · rintro i x H' hx ⟨S, ys, dy, p⟩
    obtain ⟨hi, ex⟩ := List.getElem?_eq_some_iff.mp hx
    refine ⟨hw x, ?_⟩
    unfold tYes
    refine iteT (he x (ex ▸ List.getElem_mem hi) H' _ S fun y H'' S2 r => ?_)
    have d2 := S2 _ _ dy
    have len := p.length
    rw [List.length_take] at len
    refine ⟨ys, d2, by omega, fun b o e => ?_, ys ++ [y], upd_same, ?_⟩
    · rw [upd_ne (ne_of_none e hD)]
      exact S2 _ _ (S _ _ e)
    · rw [List.take_succ, hx]
      have nl := noL_upd (ys := ys ++ [y]) d2
      refine PySem.Paired.snoc (Paired.mapP p fun x y r => hR _ _ _ _ nl (hR _ _ _ _ (NoL.same S2) r)) (hR _ _ _ _ nl r)
  · rintro H' ⟨S, ys, dy, p⟩
    rw [List.take_length] at p
    exact hd ys H' S dy p
end G

namespace G
open PySem PySem.Spec PyProof.Rows L2 SX

/-! ### repr of data with longer ints -/
structure GdF (d : PyData) : Prop where
  short : d.leavesShort 80 = true
  show_ : d.showable = true
  depth : d.depth ≤ 10
  weight : d.weight ≤ 10000
theorem GdF.fits {d : PyData} (g : GdF d) : d.shown.length ≤ sizeLine := by
  have := PyData.shown_le 80 (by decide) d g.short
  have h := g.weight
  rw [sizeLine_eq]
  have : (80 + 2) * d.weight ≤ 82 * 10000 := Nat.mul_le_mul (by decide) h
  omega
mutual
/-- data without dicts -/
inductive Dz (H : Hp) : V → PyData → Prop
  | int (i : Int) : Dz H (.int i) (.int i)
  | non : Dz H .non .none
  | lst {a : Addr} {xs : List V} {ds : List PyData} : H a = some (.lst xs) → DzAll H xs ds → Dz H (.ref a) (.list ds)
  | tup {a : Addr} {xs : List V} {ds : List PyData} : H a = some (.tup xs) → DzAll H xs ds → Dz H (.ref a) (.tuple ds)
inductive DzAll (H : Hp) : List V → List PyData → Prop
  | nil : DzAll H [] []
  | cons {v : V} {vs : List V} {d : PyData} {ds : List PyData} : Dz H v d → DzAll H vs ds → DzAll H (v :: vs) (d :: ds)
end
section
variable {X : Cx} {pins : List (Addr × Obj)} {σ : L2.St} {H : Hp} {s : Shared}
mutual
theorem Dz.reads (I : Inv X pins σ H s) : ∀ {v : V} {d : PyData} {u : Value}, Dz H v d → RelV v u → ∃ as, Reads s.heap u d as
  | _, _, _, .non, r => by cases r; exact ⟨_, .none⟩
  | _, _, _, .int i, r => by obtain ⟨t, rfl⟩ := r; exact ⟨_, .int i t⟩
  | _, _, _, .lst e t, r => by
    cases r
    obtain ⟨_, its, m, rv, ho⟩ := I.hok _ _ e
    obtain ⟨as, hr⟩ := DzAll.reads I t rv
    exact ⟨_, .list ho rfl rfl hr⟩
  | _, _, _, .tup e t, r => by
    cases r
    obtain ⟨_, its, rv, o, ho, hc, m, hd⟩ := I.hok _ _ e
    obtain ⟨as, hr⟩ := DzAll.reads I t rv
    exact ⟨_, .tuple ho hc hd hr⟩
theorem DzAll.reads (I : Inv X pins σ H s) : ∀ {vs : List V} {ds : List PyData} {us : List Value}, DzAll H vs ds → Vals vs us → ∃ as, ReadsAll s.heap us ds as
  | _, _, _, .nil, r => by cases r; exact ⟨_, .nil⟩
  | _, _, _, .cons h t, r => by
    cases r with
    | cons r1 r2 =>
      obtain ⟨as, q1⟩ := Dz.reads I h r1
      obtain ⟨bs, q2⟩ := DzAll.reads I t r2
      exact ⟨_, .cons q1 q2⟩
end
end
theorem call_reprF {X : Cx} (hq : Quiet X.A) (hu : X.A.units + 64 < cLine) : CallR X (.builtin "repr") (fun xs H Q => ∃ a d, xs = [.ref a] ∧ Dz H (.ref a) d ∧ GdF d ∧ d.hasDict = false ∧ Q (.str d.shown) H) := by
  intro pins s σ H xs us Q I r h
  obtain ⟨a, d, rfl, hd, g, nd, q⟩ := h
  obtain ⟨u, rfl, ru⟩ := vals1 r
  cases ru
  obtain ⟨as, hr⟩ := Dz.reads I hd rfl
  refine repr_of_reads' (h₀ := s.heap) hr g.show_ (fun z => by rw [nd] at z; cases z) hq (by have := g.depth; omega) (fun _ _ z => z) (fun h' t tk hk => ?_) g.fits
  exact ⟨.str d.shown, H, I.kept hk, ⟨_, rfl⟩, q⟩
/-- two ints -/
def Mid (i : Int) : Prop := i.natAbs < 10 ^ 64
theorem mid_short {i : Int} (h : Mid i) : (PyData.int i).leavesShort 80 = true := by
  refine decide_eq_true ?_
  show (Str.ofString (toString i)).length ≤ 80
  rw [int_L, S_len]
  have := intL_le (k := 64) (by decide) h
  omega
theorem mid_show {i : Int} (h : Mid i) : (PyData.int i).showable = true := decide_eq_true (Nat.lt_of_lt_of_le (PySem.Flt.log2_lt_of (k := 213) (by decide) (Nat.lt_of_lt_of_le h (by decide +kernel))) (by decide))
theorem mid_weight {i : Int} (h : Mid i) : (PyData.int i).weight ≤ 300 := by
  have := PySem.Flt.log2_lt_of (k := 213) (by decide) (Nat.lt_of_lt_of_le h (show 10 ^ 64 ≤ 2 ^ 213 by decide +kernel))
  show (if i == 0 then 0 else i.natAbs.log2 + 1) ≤ 300
  split <;> omega
def pairD (n u : Int) : PyData := .tuple [.int n, .int u]
theorem pair_good {n u : Int} (h : Mid n) (h' : Mid u) : (pairD n u).leavesShort 80 = true ∧ (pairD n u).showable = true ∧ (pairD n u).depth ≤ 1 ∧ (pairD n u).weight ≤ 1000 := by
  refine ⟨?_, ?_, ?_, ?_⟩
  · show ((PyData.int n).leavesShort 80 && ((PyData.int u).leavesShort 80 && true)) = true
    rw [mid_short h, mid_short h']
    rfl
  · show ((PyData.int n).showable && ((PyData.int u).showable && true)) = true
    rw [mid_show h, mid_show h']
    rfl
  · show max 0 (max 0 0) + 1 ≤ 1
    decide
  · show (PyData.int n).weight + 1 + ((PyData.int u).weight + 1 + 0) ≤ 1000
    have := mid_weight h
    have := mid_weight h'
    omega
theorem pair_gd {n u : Int} (h : Mid n) (h' : Mid u) : GdF (pairD n u) := by
  obtain ⟨a, b, c, d⟩ := pair_good h h'
  exact ⟨a, b, by omega, by omega⟩
theorem pairs_gd {n u m t : Int} (h1 : Mid n) (h2 : Mid u) (h3 : Mid m) (h4 : Mid t) : GdF (.list [pairD n u, pairD m t]) := by
  obtain ⟨a, b, c, d⟩ := pair_good h1 h2
  obtain ⟨a', b', c', d'⟩ := pair_good h3 h4
  refine ⟨?_, ?_, ?_, ?_⟩
  · show ((pairD n u).leavesShort 80 && ((pairD m t).leavesShort 80 && true)) = true
    rw [a, a']
    rfl
  · show ((pairD n u).showable && ((pairD m t).showable && true)) = true
    rw [b, b']
    rfl
  · show max (pairD n u).depth (max (pairD m t).depth 0) + 1 ≤ 10
    omega
  · show (pairD n u).weight + 1 + ((pairD m t).weight + 1 + 0) ≤ 10000
    omega
theorem rat_small {l : List Nat} {n u : Int} (h : IsRat l n u) (hl : l.length ≤ 60) : Mid n ∧ Mid u ∧ 0 < u := by
  have hp := h.1.pos
  have up : ∀ k : Nat, (TL.numL k).length ≤ 60 → k < 10 ^ 64 := fun k hk => by
    have := digits_small (numL_figs k) hk
    rw [TL.numL_val] at this
    exact Nat.lt_of_lt_of_le this (by decide +kernel)
  have num : (TL.numL n.natAbs).length ≤ (intL n).length := by
    unfold intL
    split
    · rw [List.length_cons]; omega
    · exact Nat.le_refl _
  rcases split_at 47 l with f | ⟨p, q, rfl, f⟩
  · obtain ⟨rfl, rfl⟩ := rat_plain h f
    exact ⟨up _ (by omega), by show (1 : Int).natAbs < 10 ^ 64; decide +kernel, by decide⟩
  · obtain ⟨_, rfl, rfl⟩ := rat_stroke h f
    rw [List.length_append, List.length_cons] at hl
    exact ⟨up _ (by omega), up _ (by omega), hp⟩
end G

namespace G
open PySem PySem.Spec PyProof.Rows L2

/-! ### None in a list of tuples and None -/
def isNo : Value → Bool
  | .none => true
  | _ => false
def noV : V → Bool
  | .non => true
  | _ => false
/-- the items are tuples, or None -/
def Tups (H : Hp) (xs : List V) : Prop := ∀ x ∈ xs, x = .non ∨ ∃ p ys, x = .ref p ∧ H p = some (.tup ys)
theorem isNo_any {H : Hp} : ∀ {xs : List V} {us : List Value}, Vals xs us → Tups H xs → us.any isNo = xs.any noV
  | _, _, .nil, _ => rfl
  | x :: xs, u :: us, .cons r t, h => by
    have ih := isNo_any t (fun y hy => h y (List.mem_cons_of_mem _ hy))
    rw [List.any_cons, List.any_cons, ih]
    rcases h x (List.mem_cons_self ..) with rfl | ⟨p, ys, rfl, _⟩
    · cases r; rfl
    · cases r; rfl
theorem op_nonIn {X : Cx} (hu : X.A.units + 64 < cLine) : OpR X (compareOp .In) (fun x y H Q => ∃ p xs, x = .non ∧ y = .ref p ∧ SqL X.K H p xs ∧ Tups H xs ∧ Q (.bl (xs.any noV)) H) := by
  intro pins s σ H x y v u Q I rx ry h
  obtain ⟨p, xs, rfl, rfl, hq, ht, q⟩ := h
  cases ry
  cases rx
  obtain ⟨its, r, pl, hz⟩ := I.list hq
  have each : ∀ {xs : List V} {us : List Value}, Vals xs us → Tups H xs → ∀ w ∈ us, SeqAt.EqAt X.A.in1 s w .none (isNo w) := fun {xs us} r => by
    induction r with
    | nil => intro _ w hw; cases hw
    | @cons x u xs us r1 r2 ih =>
      intro h w hw
      rcases List.mem_cons.mp hw with rfl | hw
      · rcases h x (List.mem_cons_self ..) with rfl | ⟨p, ys, rfl, hp⟩
        · cases r1; exact SeqAt.EqAt.same _
        · cases r1
          obtain ⟨its2, _, tp, _⟩ := I.tuple (SqT.of (K := X.K) hp)
          exact SeqAt.EqAt.tuple_none tp (by show X.A.units + 1 < cLine; omega)
      · exact ih (fun y hy => h y (List.mem_cons_of_mem _ hy)) w hw
  refine SeqAt.in_listAt isNo pl.isList (fun w hw => each r ht w (by simpa using hw)) ⟨.bl _, H, I, rfl, ?_⟩
  rw [show its.toArray.any isNo = its.any isNo by simp, isNo_any r ht]
  exact q
end G

namespace My
open PySem PySem.Spec PyProof.Rows L2 G
def topS (i : Nat) : Stmt := PySem.Challenge.pw_seenabout_k03_texts_of_ratios_and_points.main.body.getD i (.Pass ⟨0, 0, 0, 0⟩)
abbrev s__law_pot : Stmt := topS 23
theorem sc__law_pot : FnScope ["_law_script", "_law_k", "_law_cell", "_law_own", "_law_small"] ["_law_script", "_law_k"] (defScope s__law_pot) := ⟨rfl, rfl, rfl, by decide +kernel, rfl, by decide +kernel, by decide +kernel⟩

abbrev s__law_take : Stmt := topS 24
theorem sc__law_take : FnScope ["_law_pot_here", "_law_upto", "_law_digit", "_law_prime", "_law_blend"] ["_law_pot_here", "_law_upto"] (defScope s__law_take) := ⟨rfl, rfl, rfl, by decide +kernel, rfl, by decide +kernel, by decide +kernel⟩

abbrev s__law_of : Stmt := topS 25
theorem sc__law_of : FnScope ["_law_pot_here", "_law_some"] ["_law_pot_here", "_law_some"] (defScope s__law_of) := ⟨rfl, rfl, rfl, by decide +kernel, rfl, by decide +kernel, by decide +kernel⟩

abbrev s__law_places : Stmt := topS 26
theorem sc__law_places : FnScope ["_law_script", "_law_most"] ["_law_script", "_law_most"] (defScope s__law_places) := ⟨rfl, rfl, rfl, by decide +kernel, rfl, by decide +kernel, by decide +kernel⟩

structure Ad where
  init : Addr
  AboutError : Addr
  BadText : Addr
  Ratio : Addr
  Point : Addr
  _law_pot : Addr
  _law_take : Addr
  _law_of : Addr
  _law_places : Addr
  _law_told : Addr
  _law_odd : Addr
  _law_common : Addr
  _law_pair : Addr
  _law_ratio_text : Addr
  _law_pair_of : Addr
  _law_figures : Addr
  _law_read : Addr
  _law_drawn : Addr
  _law_bent_text : Addr
  _law_is_ratio_right : Addr
  _law_is_point_right : Addr
  _law_right : Addr
  law : Addr
  is_integer : Addr
  is_number : Addr
  as_ratio : Addr
  written : Addr
  _has_figures_alone : Addr
  _worth : Addr
  read_ratio : Addr
  read_point : Addr
  Ratio___init__ : Addr
  Ratio_text : Addr
  Ratio_of : Addr
  Point___init__ : Addr
  Point_text : Addr
  Point_of : Addr
/-- what isinstance asks of a class of plain instances -/
structure RI (K : PySem.W.Frag) (C : Addr) : Prop where
  ca : PySem.W.findIn K (.ref C) "__class__" = some (some (.builtin "object.__class__"))
  cn : PySem.W.specialIn K (.builtin "object.__class__") "__get__" = some (some (.builtin "getset_descriptor.__get__"))
  ct : PySem.W.takesIn K (.builtin "object.__class__") = some true
  cm : PySem.W.mroIn K C (.type "object") = some true
  ki : PySem.W.kitOne K (.ref C) (.type "int") = some false
  kb : PySem.W.kitOne K (.ref C) (.type "bool") = some false
  ks : PySem.W.kitOne K (.ref C) (.ref C) = some true
  kt : ∀ t ∈ (["int", "bool", "NoneType", "str", "tuple", "list", "dict"] : List String), PySem.W.kitOne K (.type t) (.ref C) = some false
/-- what the top has written -/
structure Txt (K : PySem.W.Frag) (mg : Str → Option Value) (a : Ad) : Prop where
  n_abs : mg "abs" = none
  n_all : mg "all" = none
  n_any : mg "any" = none
  n_bool : mg "bool" = none
  n_int : mg "int" = none
  n_isinstance : mg "isinstance" = none
  n_len : mg "len" = none
  n_list : mg "list" = none
  n_max : mg "max" = none
  n_min : mg "min" = none
  n_range : mg "range" = none
  n_repr : mg "repr" = none
  n_divmod : mg "divmod" = none
  n_str : mg "str" = none
  g_AboutError : mg "AboutError" = some (.ref a.AboutError)
  g_BadText : mg "BadText" = some (.ref a.BadText)
  c_BadText : EC K a.BadText
  i_BadText : PySem.W.findIn K (.ref a.BadText) "__init__" = some (some (.ref a.init))
  tI : PySem.W.typeIn K (.ref a.init) = some (.type "function")
  ek : EK K
  x_BadText : PySem.W.exmOne K (.ref a.BadText) (.ref a.AboutError) = some true
  t_BadText : PySem.W.kitOne K (.ref a.BadText) (.ref a.BadText) = some true
  g_gcd : mg "gcd" = some (.builtin "math.gcd")
  g_PART : ∃ t, mg "_PART" = some (.int (10 ^ 64) t)
  g_FIG : ∃ t, mg "_FIGURES" = some (.int 64 t)
  g__law_pot : mg "_law_pot" = some (.ref a._law_pot)
  k__law_pot : PySem.W.keepIn K (.ref a._law_pot) = true
  g__law_take : mg "_law_take" = some (.ref a._law_take)
  k__law_take : PySem.W.keepIn K (.ref a._law_take) = true
  g__law_of : mg "_law_of" = some (.ref a._law_of)
  k__law_of : PySem.W.keepIn K (.ref a._law_of) = true
  g__law_places : mg "_law_places" = some (.ref a._law_places)
  k__law_places : PySem.W.keepIn K (.ref a._law_places) = true
  g__law_told : mg "_law_told" = some (.ref a._law_told)
  k__law_told : PySem.W.keepIn K (.ref a._law_told) = true
  g__law_odd : mg "_law_odd" = some (.ref a._law_odd)
  k__law_odd : PySem.W.keepIn K (.ref a._law_odd) = true
  g__law_common : mg "_law_common" = some (.ref a._law_common)
  k__law_common : PySem.W.keepIn K (.ref a._law_common) = true
  g__law_pair : mg "_law_pair" = some (.ref a._law_pair)
  k__law_pair : PySem.W.keepIn K (.ref a._law_pair) = true
  g__law_ratio_text : mg "_law_ratio_text" = some (.ref a._law_ratio_text)
  k__law_ratio_text : PySem.W.keepIn K (.ref a._law_ratio_text) = true
  g__law_pair_of : mg "_law_pair_of" = some (.ref a._law_pair_of)
  k__law_pair_of : PySem.W.keepIn K (.ref a._law_pair_of) = true
  g__law_figures : mg "_law_figures" = some (.ref a._law_figures)
  k__law_figures : PySem.W.keepIn K (.ref a._law_figures) = true
  g__law_read : mg "_law_read" = some (.ref a._law_read)
  k__law_read : PySem.W.keepIn K (.ref a._law_read) = true
  g__law_drawn : mg "_law_drawn" = some (.ref a._law_drawn)
  k__law_drawn : PySem.W.keepIn K (.ref a._law_drawn) = true
  g__law_bent_text : mg "_law_bent_text" = some (.ref a._law_bent_text)
  k__law_bent_text : PySem.W.keepIn K (.ref a._law_bent_text) = true
  g__law_is_ratio_right : mg "_law_is_ratio_right" = some (.ref a._law_is_ratio_right)
  k__law_is_ratio_right : PySem.W.keepIn K (.ref a._law_is_ratio_right) = true
  g__law_is_point_right : mg "_law_is_point_right" = some (.ref a._law_is_point_right)
  k__law_is_point_right : PySem.W.keepIn K (.ref a._law_is_point_right) = true
  g__law_right : mg "_law_right" = some (.ref a._law_right)
  k__law_right : PySem.W.keepIn K (.ref a._law_right) = true
  g_law : mg "law" = some (.ref a.law)
  k_law : PySem.W.keepIn K (.ref a.law) = true
  g_is_integer : mg "is_integer" = some (.ref a.is_integer)
  k_is_integer : PySem.W.keepIn K (.ref a.is_integer) = true
  g_is_number : mg "is_number" = some (.ref a.is_number)
  k_is_number : PySem.W.keepIn K (.ref a.is_number) = true
  g_as_ratio : mg "as_ratio" = some (.ref a.as_ratio)
  k_as_ratio : PySem.W.keepIn K (.ref a.as_ratio) = true
  g_written : mg "written" = some (.ref a.written)
  k_written : PySem.W.keepIn K (.ref a.written) = true
  g__has_figures_alone : mg "_has_figures_alone" = some (.ref a._has_figures_alone)
  k__has_figures_alone : PySem.W.keepIn K (.ref a._has_figures_alone) = true
  g__worth : mg "_worth" = some (.ref a._worth)
  k__worth : PySem.W.keepIn K (.ref a._worth) = true
  g_read_ratio : mg "read_ratio" = some (.ref a.read_ratio)
  k_read_ratio : PySem.W.keepIn K (.ref a.read_ratio) = true
  g_read_point : mg "read_point" = some (.ref a.read_point)
  k_read_point : PySem.W.keepIn K (.ref a.read_point) = true
  g_Ratio : mg "Ratio" = some (.ref a.Ratio)
  m_Ratio : Mk K a.Ratio a.Ratio___init__
  cl : Cls K a.Ratio
  nN : NoAttr K a.Ratio "number"
  nU : NoAttr K a.Ratio "under"
  ri : RI K a.Ratio
  g_Point : mg "Point" = some (.ref a.Point)
  m_Point : Mk K a.Point a.Point___init__
  clP : Cls K a.Point
  nX : NoAttr K a.Point "x"
  nY : NoAttr K a.Point "y"
  tR : ∃ p, PropOf K a.Ratio "text" p a.Ratio_text
  tP : ∃ p, PropOf K a.Point "text" p a.Point_text
  oR : SMet K a.Ratio "of" a.Ratio_of
  oP : SMet K a.Point "of" a.Point_of

/-! ### the pot: three ints, of which the last counts -/
def PotAt (H : Hp) (p : Addr) (n : Nat) : Prop := ∃ a b c : Int, H p = some (.lst [.int a, .int b, .int c]) ∧ (0 ≤ a ∧ a < 10 ^ 300) ∧ (0 ≤ b ∧ b < 2 ^ 61) ∧ (0 ≤ c ∧ c ≤ (n : Int))
/-- the heap without the pot -/
noncomputable abbrev wo (p : Addr) (H : Hp) : Hp := mask (fun b => b = p) H
theorem wo_ne {p b : Addr} {H : Hp} (h : b ≠ p) : wo p H b = H b := mask_out h
theorem wo_same {p : Addr} {H : Hp} : wo p H p = none := mask_in rfl
theorem wo_le (p : Addr) (H : Hp) : Same (wo p H) H := mask_le _ _
theorem wo_upd {p : Addr} {H : Hp} {o : HO} : wo p (upd H p o) = wo p H := by
  funext b
  by_cases e : b = p
  · rw [e, wo_same, wo_same]
  · rw [wo_ne e, wo_ne e, upd_ne e]
/-- all but the pot stays, the pot is one still -/
structure Go (p : Addr) (n : Nat) (H H' : Hp) : Prop where
  keep : Same (wo p H) (wo p H')
  pot : PotAt H' p n
theorem Go.trans {p : Addr} {m n : Nat} {H H1 H2 : Hp} (a : Go p m H H1) (b : Go p n H1 H2) : Go p n H H2 := ⟨a.keep.trans b.keep, b.pot⟩
theorem Go.at {p : Addr} {n : Nat} {H H' : Hp} (g : Go p n H H') {b : Addr} {o : HO} (h : H b = some o) (hb : b ≠ p) : H' b = some o := wo_le p H' _ _ (g.keep b o (by rw [wo_ne hb]; exact h))

def spPot (K : PySem.W.Frag) : Sp := fun vs H Q _ => ∃ (s : Addr) (ns : List Int) (k : Int), vs = [.ref s, .int k] ∧ SqL K H s (ns.map V.int) ∧ ns.length ≤ 63 ∧ 0 ≤ k ∧ k ≤ 100 ∧
  ∀ p H', H p = none → Same H H' → PotAt H' p 0 → Q (.ref p) H'
def spTake : Sp := fun vs H Q _ => ∃ (p : Addr) (u : Int) (n : Nat), vs = [.ref p, .int u] ∧ PotAt H p n ∧ n ≤ 100000 ∧ 1 ≤ u ∧ u ≤ 10 ^ 8 ∧
  ∀ d H', 0 ≤ d → d < u → Go p (n + 1) H H' → Q (.int d) H'
def spOf : Sp := fun vs H Q _ => ∃ (p s : Addr) (n : Nat) (xs : List V), vs = [.ref p, .ref s] ∧ s ≠ p ∧ PotAt H p n ∧ n ≤ 100000 ∧ H s = some (.lst xs) ∧ xs ≠ [] ∧ xs.length ≤ 10 ^ 6 ∧
  ∀ x H', x ∈ xs → Go p (n + 1) H H' → Q x H'
def spPlaces (K : PySem.W.Frag) : Sp := fun vs H Q _ => ∃ (s : Addr) (ns : List Int) (m : Int), vs = [.ref s, .int m] ∧ SqL K H s (ns.map V.int) ∧ ns.length ≤ 63 ∧ 1 ≤ m ∧ m ≤ 100 ∧
  ∀ (l : Addr) (n : Nat) (H' : Hp), H l = none → Same H H' → (n : Int) ≤ m → H' l = some (.lst (rgV 0 n)) → Q (.ref l) H'
/-- what is kept but for the pot keeps data that lie elsewhere -/
theorem Go.mask {p : Addr} {n : Nat} {H H' : Hp} {N : Addr → Prop} (g : Go p n H H') (hp : N p) : Same (mask N H) (mask N H') := fun b o h => by
  obtain ⟨nb, e⟩ := mask_some h
  have hb : b ≠ p := fun z => nb (by rw [z]; exact hp)
  rw [mask_out nb]
  exact g.at e hb
theorem Go.is {p : Addr} {n : Nat} {H H' : Hp} {N : Addr → Prop} {G : PyData → Prop} {v : V} (g : Go p n H H') (hp : N p) (x : Is N H G v) : Is N H' G v := let ⟨d, a, y⟩ := x; ⟨d, a.same (g.mask hp), y⟩
theorem Go.of {p : Addr} {n : Nat} {H H1 H' : Hp} (S : Same H H1) (g : Go p n H1 H') : Go p n H H' := ⟨(mask_mono S).trans g.keep, g.pot⟩
theorem PotAt.same {p : Addr} {n : Nat} {H H' : Hp} (S : Same H H') (x : PotAt H p n) : PotAt H' p n := let ⟨a, b, c, h, r⟩ := x; ⟨a, b, c, S _ _ h, r⟩
theorem PotAt.mono {p : Addr} {m n : Nat} {H : Hp} (x : PotAt H p m) (h : m ≤ n) : PotAt H p n := let ⟨a, b, c, e, r1, r2, r3, r4⟩ := x; ⟨a, b, c, e, r1, r2, r3, by omega⟩
theorem PotAt.has {p : Addr} {n : Nat} {H : Hp} (x : PotAt H p n) : H p ≠ none := by obtain ⟨a, b, c, e, _⟩ := x; rw [e]; simp
theorem Go.mono {p : Addr} {m n : Nat} {H H' : Hp} (g : Go p m H H') (h : m ≤ n) : Go p n H H' := ⟨g.keep, g.pot.mono h⟩

/-- any of the odd values: new data -/
def spOdd : Sp := fun vs H Q _ => ∃ (p : Addr) (n : Nat), vs = [.ref p] ∧ PotAt H p n ∧ n ≤ 100000 ∧ ∀ v H', (∀ N, Tr N H → Is N H' (Gd 60 4) v) → Go p (n + 1) H H' → Q v H'
section
variable {P : Program} {w : World} {K : PySem.W.Frag} {mg : Str → Option Value} {base : Heap} {a : Ad}

theorem pow300 : ((10 : Int) ^ (60 : Int).toNat) ^ (5 : Int).toNat = 10 ^ 300 := by
  show ((10 : Int) ^ 60) ^ 5 = 10 ^ 300
  rw [← Int.pow_mul]
theorem cpow1 : CPowW 10 60 := ⟨by decide, by decide, by decide +kernel⟩
theorem cpow2 : CPowW ((10 : Int) ^ (60 : Int).toNat) 5 := ⟨by decide +kernel, by decide, by decide +kernel⟩
theorem cpow3 : CPowW 10 18 := ⟨by decide, by decide, by decide +kernel⟩
theorem mod300 (x : Int) : 0 ≤ x.fmod (10 ^ 300) ∧ x.fmod (10 ^ 300) < 10 ^ 300 := by
  have h : (0 : Int) < 10 ^ 300 := by decide +kernel
  exact ⟨Int.fmod_nonneg_of_pos _ h, Int.fmod_lt_of_pos _ h⟩
theorem cpow_of {i : Int} (h0 : 2 ≤ i) (h : i < 2 ^ 100) : CPowW i 3 := by
  refine ⟨h0, by decide, ?_⟩
  have h1 : i.natAbs < 2 ^ 100 := by omega
  have h2 := PySem.Flt.log2_lt_of (by decide) h1
  have h3 : Builtin.Int.intBits i ≤ i.natAbs.log2 + 1 := by
    unfold Builtin.Int.intBits
    split <;> omega
  omega
theorem b01 (b : Bool) : -(2 ^ 64) < (if b = true then (1 : Int) else 0) ∧ (if b = true then (1 : Int) else 0) < 2 ^ 64 := by cases b <;> decide
theorem own01 {x m : Int} (h : 0 ≤ x ∧ x < m) (b : Bool) : 0 ≤ x * (if b = true then (1 : Int) else 0) ∧ x * (if b = true then (1 : Int) else 0) < m := by
  cases b
  · simp; omega
  · simp; omega
theorem fm {u : Int} (x : Int) (h : 0 < u) : 0 ≤ x.fmod u ∧ x.fmod u < u := ⟨Int.fmod_nonneg_of_pos _ h, Int.fmod_lt_of_pos _ h⟩
theorem ok__law_pot {fd : FuncData} (F : Fun K "_law_pot" "_law_pot" s__law_pot a._law_pot fd) (T : Txt K mg a) :
    Fn P w K mg base CX0 1 a._law_pot fd ["_law_script", "_law_k"] (spPot K) := by
  refine ok F sc__law_pot (fun vs H Q E h => ?len) (fun cdv A outer s H vs Q E hq hr h => ⟨_,
      (Evl.pss_cut (ps_set (i := 2) sc__law_pot.nd rfl (Or.inl rfl) (pe_ifExp (pt_cmpR op_lt (pv 1) (pe_callB call_len_seq (by rfl) T.n_len (by decide +kernel) (pa_cons (pv 0) pa_nil)) (nomark _)) (pe_ix ix_list (pv 0) (pv 1) (fun _ _ => rfl)) (pe_op op_add (pe_op op_mul pe_int (pv 1)) pe_int)))
      (pss_cons (ps_set (i := 3) sc__law_pot.nd rfl (Or.inl rfl) (pe_op op_mul (pe_op op_modN (pe_callTy call_int1 (by rfl) T.n_int (by decide +kernel) (pa_cons (pe_callB call_abs (by rfl) T.n_abs (by decide +kernel) (pa_cons (pv 2) pa_nil)) pa_nil)) (pe_op op_powW (pe_op op_powW pe_int pe_int) pe_int)) (pe_callTy call_int1 (by rfl) T.n_int (by decide +kernel) (pa_cons (pe_cmpR op_ge (pe_callB call_abs (by rfl) T.n_abs (by decide +kernel) (pa_cons (pv 2) pa_nil)) (pe_op op_powW pe_int pe_int) (nomark _)) pa_nil))))
      (pss_cons (ps_set (i := 4) sc__law_pot.nd rfl (Or.inl rfl) (pe_op op_modN (pe_callTy call_int1 (by rfl) T.n_int (by decide +kernel) (pa_cons (pv 2) pa_nil)) pe_int))
      (pss_one (ps_ret (pe_lstS (pa_cons (pv 3) (pa_cons (pe_op op_modN (pe_callTy call_int1 (by rfl) T.n_int (by decide +kernel) (pa_cons (pe_op op_add (pe_op op_add (pe_op op_mul (pv 4) pe_int) (pe_op op_mul (pe_op op_mul pe_int (pv 1)) (pv 1))) pe_int) pa_nil)) pe_int) (pa_cons pe_int pa_nil))))))))), ?body⟩)
  case len => obtain ⟨s, ns, k, rfl, _⟩ := h; rfl
  case body =>
    obtain ⟨s, ns, k, rfl, hs, hl, hk0, hk1, q⟩ := h
    refine ⟨fun σ' H' => ∃ c : Int, σ' = [some (.ref s), some (.int k), some (.int c), none, none] ∧ H' = H, ?first, ?rest⟩
    case first =>
      refine ⟨_, rfl, _, rfl, _, _, rfl, .inl hs, _, _, rfl, rfl, _, rfl, ite2 (fun c => ?_) (fun c => ?_)⟩
      · have hk : k.toNat < ns.length := by
          have := of_decide_eq_true c
          rw [List.length_map] at this
          omega
        refine ⟨_, rfl, _, rfl, _, _, _, _, rfl, rfl, hs, at_of (j := k.toNat) (v := .int ns[k.toNat]) (by omega) (by rw [List.getElem?_map, List.getElem?_eq_getElem hk]; rfl), ?_⟩
        exact ⟨_, rfl, rfl⟩
      · refine ⟨_, rfl, _, _, rfl, rfl, .inl ⟨by decide, by decide⟩, _, _, rfl, rfl, ?_⟩
        exact ⟨_, rfl, rfl⟩
    case rest =>
      rintro σ' H' ⟨c, rfl, rfl⟩
      have m1 : 0 ≤ c.fmod 2305843009213693951 ∧ c.fmod 2305843009213693951 < 2305843009213693951 := ⟨Int.fmod_nonneg_of_pos _ (by decide), Int.fmod_lt_of_pos _ (by decide)⟩
      refine ⟨_, rfl, _, rfl, .inl ⟨_, rfl, _, _, rfl, rfl, cpow1, _, _, rfl, rfl, cpow2, _, _, rfl, rfl, (by rw [pow300]; show (10 ^ 300 : Int) ≠ 0; decide +kernel), _, rfl, _, rfl, _, _, rfl, rfl, cpow3, _, _, rfl, rfl, .inr ⟨_, rfl, _, _, rfl, rfl, .inr (b01 _), ?_⟩⟩⟩
      refine ⟨_, rfl, .inl ⟨_, rfl, _, _, rfl, rfl, (by show (_ : Int) ≠ 0; decide), ?_⟩⟩
      refine ⟨_, rfl, _, rfl, _, _, rfl, rfl, .inl ⟨by omega, by omega⟩, _, rfl, _, _, rfl, rfl, .inl ⟨by decide, by decide⟩, _, rfl, _, _, rfl, rfl, .inr ⟨by omega, by omega⟩, _, _, rfl, rfl, _, _, rfl, rfl, .inl ⟨_, rfl, _, _, rfl, rfl, (by show (_ : Int) ≠ 0; decide), (by show 3 ≤ sizeLine; decide), fun p h1 s1 => ?_⟩⟩
      refine q p _ h1 (fun b o z => by rw [upd_ne (ne_of_none z h1)]; exact z) ⟨_, _, _, upd_same, ?_, ?_, by decide⟩
      · rw [pow300]
        exact own01 (mod300 _) _
      · exact ⟨Int.fmod_nonneg_of_pos _ (by decide), Int.lt_trans (Int.fmod_lt_of_pos _ (by decide)) (by decide)⟩
theorem ok__law_take {fd : FuncData} (F : Fun K "_law_take" "_law_take" s__law_take a._law_take fd) (T : Txt K mg a) :
    Fn P w K mg base CX0 1 a._law_take fd ["_law_pot_here", "_law_upto"] spTake := by
  refine ok F sc__law_take (fun vs H Q E h => ?len) (fun cdv A outer s H vs Q E hq hr h => ⟨_,
      (pss_cons (ps_if (pt_cmpR op_gt (pe_ix ix_list (pv 0) pe_int (fun _ _ => rfl)) pe_int (nomark _)) (pss_cons (ps_set (i := 2) sc__law_take.nd rfl (Or.inl rfl) (pe_op op_modN (pe_callTy call_int1 (by rfl) T.n_int (by decide +kernel) (pa_cons (pe_ix ix_list (pv 0) pe_int (fun _ _ => rfl)) pa_nil)) (pv 1)))
      (pss_cons (ps_asg (pe_op op_fdivN (pe_ix ix_list (pv 0) pe_int (fun _ _ => rfl)) (pv 1)) (pg_sub (pv 0) pe_int set_list))
      (pss_one (ps_ret (pv 2))))) pss_nil)
      (pss_cons (ps_asg (pe_op op_add (pe_ix ix_list (pv 0) pe_int (fun _ _ => rfl)) pe_int) (pg_sub (pv 0) pe_int set_list))
      (pss_cons (ps_set (i := 3) sc__law_take.nd rfl (Or.inl rfl) (pe_ix ix_list (pe_lstS (pa_cons pe_int (pa_cons pe_int (pa_cons pe_int (pa_cons pe_int (pa_cons pe_int pa_nil)))))) (pe_op op_modN (pe_callTy call_int1 (by rfl) T.n_int (by decide +kernel) (pa_cons (pe_ix ix_list (pv 0) pe_int (fun _ _ => rfl)) pa_nil)) pe_int) (fun _ _ => rfl)))
      (pss_cons (ps_set (i := 4) sc__law_take.nd rfl (Or.inl rfl) (pe_op op_modN (pe_callTy call_int1 (by rfl) T.n_int (by decide +kernel) (pa_cons (pe_op op_powW (pe_callTy call_int1 (by rfl) T.n_int (by decide +kernel) (pa_cons (pe_op op_add (pe_op op_add (pe_ix ix_list (pv 0) pe_int (fun _ _ => rfl)) (pe_op op_mul (pe_op op_mul pe_int (pe_ix ix_list (pv 0) pe_int (fun _ _ => rfl))) (pe_ix ix_list (pv 0) pe_int (fun _ _ => rfl)))) pe_int) pa_nil)) pe_int) pa_nil)) (pv 3)))
      (pss_one (ps_ret (pe_op op_modN (pe_callTy call_int1 (by rfl) T.n_int (by decide +kernel) (pa_cons (pe_op op_fdivN (pe_op op_mul (pv 4) (pe_op op_add (pe_op op_modN (pe_callTy call_int1 (by rfl) T.n_int (by decide +kernel) (pa_cons (pv 4) pa_nil)) pe_int) (pe_op op_mul pe_int (pe_ix ix_list (pv 0) pe_int (fun _ _ => rfl))))) pe_int) pa_nil)) (pv 1)))))))), ?body⟩)
  case len => obtain ⟨p, u, n, rfl, _⟩ := h; rfl
  case body =>
    obtain ⟨p, u, n, rfl, ⟨x, y, z, hp, ⟨hx0, hx1⟩, ⟨hy0, hy1⟩, hz0, hz1⟩, hn, hu0, hu1, q⟩ := h
    refine ⟨_, rfl, p, _, _, _, rfl, rfl, SqL.of hp, rfl, _, _, rfl, rfl, _, rfl, ite2 (fun c => ?_) (fun c => ?_)⟩
    · refine ⟨_, rfl, _, _, _, _, rfl, rfl, SqL.of hp, rfl, .inl ⟨_, rfl, _, rfl, _, _, rfl, rfl, (by omega), _, rfl, _, _, _, _, rfl, rfl, SqL.of hp, rfl, _, rfl, _, _, rfl, rfl, ⟨by omega, by omega⟩, _, rfl, _, _, _, _, rfl, rfl, hp, rfl, _, rfl, ?_⟩⟩
      refine q _ _ (Int.fmod_nonneg_of_pos _ (by omega)) (Int.fmod_lt_of_pos _ (by omega)) ⟨by rw [wo_upd]; exact fun _ _ z => z, _, _, _, upd_same, ?_, ⟨hy0, hy1⟩, hz0, by omega⟩
      have e : x.fdiv u = x / u := Int.fdiv_eq_ediv_of_nonneg _ (by omega)
      show 0 ≤ x.fdiv u ∧ x.fdiv u < 10 ^ 300
      rw [e]
      exact ⟨Int.ediv_nonneg hx0 (by omega), Int.lt_of_le_of_lt (Int.ediv_le_self _ hx0) hx1⟩
    · refine ⟨_, rfl, _, _, _, _, rfl, rfl, SqL.of hp, rfl, _, _, rfl, rfl, _, rfl, _, _, _, _, rfl, rfl, hp, rfl, (by show 5 ≤ sizeLine; decide), fun l hl sl => ?_⟩
      have hp1 : upd H p (.lst [V.int x, V.int y, V.int (z + 1)]) p = some (.lst [V.int x, V.int y, V.int (z + 1)]) := upd_same
      replace hl : upd H p (.lst [V.int x, V.int y, V.int (z + 1)]) l = none := hl
      have npl : p ≠ l := ne_of_none hp1 hl
      have hp2 : upd (upd H p (.lst [V.int x, V.int y, V.int (z + 1)])) l (.lst [V.int 2147483647, V.int 2147483629, V.int 2147483587, V.int 2147483579, V.int 2147483563]) p = some (.lst [V.int x, V.int y, V.int (z + 1)]) := by rw [upd_ne npl]; exact hp1
      have hl2 : upd (upd H p (.lst [V.int x, V.int y, V.int (z + 1)])) l (.lst [V.int 2147483647, V.int 2147483629, V.int 2147483587, V.int 2147483579, V.int 2147483563]) l = some (.lst [V.int 2147483647, V.int 2147483629, V.int 2147483587, V.int 2147483579, V.int 2147483563]) := upd_same
      have keep : Same (wo p H) (wo p (upd (upd H p (.lst [V.int x, V.int y, V.int (z + 1)])) l (.lst [V.int 2147483647, V.int 2147483629, V.int 2147483587, V.int 2147483579, V.int 2147483563]))) := by
        intro b o e
        by_cases hb : b = p
        · rw [hb, wo_same] at e; cases e
        · rw [wo_ne hb] at e ⊢
          have : b ≠ l := by
            rintro rfl
            rw [upd_ne hb, e] at hl
            cases hl
          rw [upd_ne this, upd_ne hb]; exact e
      -- which prime
      obtain ⟨j, hj, ej⟩ : ∃ j : Nat, j < 5 ∧ (z + 1).fmod 5 = (j : Int) := ⟨((z + 1).fmod 5).toNat, by have := Int.fmod_lt_of_pos (z + 1) (show (0 : Int) < 5 by decide); have := Int.fmod_nonneg_of_pos (z + 1) (show (0 : Int) < 5 by decide); omega, by have := Int.fmod_nonneg_of_pos (z + 1) (show (0 : Int) < 5 by decide); omega⟩
      obtain ⟨pr, hpr, at5⟩ : ∃ pr : Int, (2147483563 ≤ pr ∧ pr ≤ 2147483647) ∧ [V.int 2147483647, V.int 2147483629, V.int 2147483587, V.int 2147483579, V.int 2147483563][j]? = some (.int pr) := by
        match j, hj with
        | 0, _ => exact ⟨_, ⟨by decide, by decide⟩, rfl⟩
        | 1, _ => exact ⟨_, ⟨by decide, by decide⟩, rfl⟩
        | 2, _ => exact ⟨_, ⟨by decide, by decide⟩, rfl⟩
        | 3, _ => exact ⟨_, ⟨by decide, by decide⟩, rfl⟩
        | 4, _ => exact ⟨_, ⟨by decide, by decide⟩, rfl⟩
      have zz : 0 ≤ (z + 1) * (z + 1) ∧ (z + 1) * (z + 1) ≤ 100001 * 100001 := ⟨Int.mul_nonneg (by omega) (by omega), Int.mul_le_mul (by omega) (by omega) (by omega) (by omega)⟩
      have e9 : 91021 * (z + 1) * (z + 1) = 91021 * ((z + 1) * (z + 1)) := Int.mul_assoc _ _ _
      refine ⟨_, rfl, _, _, _, _, rfl, rfl, SqL.of hp2, rfl, .inl ⟨_, rfl, _, _, rfl, rfl, (by show (_ : Int) ≠ 0; decide), _, _, _, _, rfl, rfl, SqL.of hl2, at_of ej at5, ?_⟩⟩
      refine ⟨_, rfl, _, _, _, _, rfl, rfl, SqL.of hp2, rfl, _, rfl, _, _, _, _, rfl, rfl, SqL.of hp2, rfl, _, _, rfl, rfl, .inl ⟨by decide, by decide⟩, _, rfl, _, _, _, _, rfl, rfl, SqL.of hp2, rfl, _, _, rfl, rfl, .inl ⟨by omega, by omega⟩, _, _, rfl, rfl, _, _, rfl, rfl, .inl ⟨_, rfl, _, _, rfl, rfl, ?pow, .inl ⟨_, rfl, _, rfl, _, _, rfl, rfl, (by omega), ?_⟩⟩⟩
      case pow => exact cpow_of (by rw [e9]; omega) (by rw [e9]; omega)
      generalize (y + 91021 * (z + 1) * (z + 1) + 67) ^ (3 : Int).toNat = bb
      have mb : 0 ≤ bb.fmod pr ∧ bb.fmod pr < pr := ⟨Int.fmod_nonneg_of_pos _ (by omega), Int.fmod_lt_of_pos _ (by omega)⟩
      refine ⟨_, rfl, _, rfl, .inl ⟨_, rfl, _, _, rfl, rfl, (by show (_ : Int) ≠ 0; decide), _, rfl, _, _, _, _, rfl, rfl, SqL.of hp2, rfl, _, _, rfl, rfl, .inl ⟨by decide, by decide⟩, _, _, rfl, rfl, _, _, rfl, rfl, .inl ⟨by omega, by omega⟩, _, _, rfl, rfl, ⟨by decide, by decide⟩, .inl ⟨_, rfl, _, rfl, _, _, rfl, rfl, (by omega), ?_⟩⟩⟩
      exact q _ _ (Int.fmod_nonneg_of_pos _ (by omega)) (Int.fmod_lt_of_pos _ (by omega)) ⟨keep, _, _, _, hp2, ⟨hx0, hx1⟩, ⟨hy0, hy1⟩, by omega, by omega⟩
theorem ok__law_of {fd : FuncData} (F : Fun K "_law_of" "_law_of" s__law_of a._law_of fd) (T : Txt K mg a)
    {fd__law_take : FuncData} (G__law_take : Fn P w K mg base CX0 1 a._law_take fd__law_take ["_law_pot_here", "_law_upto"] spTake) (b__law_take : Binds K fd__law_take ["_law_pot_here", "_law_upto"] []) :
    Fn P w K mg base CX0 2 a._law_of fd ["_law_pot_here", "_law_some"] spOf := by
  refine ok F sc__law_of (fun vs H Q E h => ?len) (fun cdv A outer s H vs Q E hq hr h => ⟨_,
      (pss_one (ps_ret (pe_ix ix_list (pv 1) (pe_fn G__law_take hq (hr.mono (by omega)) (by rfl) T.g__law_take T.k__law_take b__law_take .nil pass0 (pa_cons (pv 0) (pa_cons (pe_callB call_len_seq (by rfl) T.n_len (by decide +kernel) (pa_cons (pv 1) pa_nil)) pa_nil))) (fun _ _ => rfl)))), ?body⟩)
  case len => obtain ⟨p, s, n, xs, rfl, _⟩ := h; rfl
  case body =>
    obtain ⟨p, s, n, xs, rfl, hsp, pot, hn, hs, hne, hz, q⟩ := h
    have h1 : 1 ≤ xs.length := List.length_pos_iff.mpr hne
    refine ⟨_, rfl, _, rfl, _, rfl, _, _, rfl, .inl (SqL.of hs), ?_⟩
    refine ⟨p, _, n, rfl, pot, hn, by omega, by omega, fun d H1 d0 d1 g => ?_⟩
    have hd : d.toNat < xs.length := by omega
    refine ⟨_, _, _, _, rfl, rfl, SqL.of (g.at hs hsp), at_of (j := d.toNat) (by omega) (List.getElem?_eq_getElem hd), ?_⟩
    exact q _ _ (List.getElem_mem hd) g
theorem ok__law_places {fd : FuncData} (F : Fun K "_law_places" "_law_places" s__law_places a._law_places fd) (T : Txt K mg a) :
    Fn P w K mg base CX0 1 a._law_places fd ["_law_script", "_law_most"] (spPlaces K) := by
  refine ok F sc__law_places (fun vs H Q E h => ?len) (fun cdv A outer s H vs Q E hq hr h => ⟨_,
      (pss_one (ps_ret (pe_listRg rfl (by rfl) T.n_list (prg_1 (by rfl) T.n_range (pe_callB (call_max2 rfl) (by rfl) T.n_max (by decide +kernel) (pa_cons pe_int (pa_cons (pe_callB (call_min2 rfl) (by rfl) T.n_min (by decide +kernel) (pa_cons (pv 1) (pa_cons (pe_callB call_len_seq (by rfl) T.n_len (by decide +kernel) (pa_cons (pv 0) pa_nil)) pa_nil))) pa_nil))))))), ?body⟩)
  case len => obtain ⟨s, ns, m, rfl, _⟩ := h; rfl
  case body =>
    obtain ⟨s, ns, m, rfl, hs, hl, hm0, hm1, q⟩ := h
    refine ⟨_, rfl, _, rfl, _, _, rfl, .inl hs, _, _, rfl, _, _, rfl, _, rfl, RgOk.of_le (by decide) (by rw [List.length_map]; split <;> split <;> omega) (by decide) (by split <;> split <;> omega), fun l h1 => ?_⟩
    obtain ⟨k, ek, hk⟩ : ∃ k : Nat, (if (if ((ns.map V.int).length : Int) < m then ((ns.map V.int).length : Int) else m) > 1 then (if ((ns.map V.int).length : Int) < m then ((ns.map V.int).length : Int) else m) else 1) = (k : Int) ∧ (k : Int) ≤ m := by
      refine ⟨_, (Int.toNat_of_nonneg ?_).symm, ?_⟩
      · split <;> split <;> omega
      · rw [Int.toNat_of_nonneg (by split <;> split <;> omega)]
        split <;> split <;> omega
    refine q l k _ h1 (fun b o z => by rw [upd_ne (ne_of_none z h1)]; exact z) hk (Eq.trans upd_same ?_)
    rw [← ek]
end
end My

namespace My
open PySem PySem.Spec PyProof.Rows L2 G
abbrev s_is_integer : Stmt := topS 10
theorem sc_is_integer : FnScope ["value"] ["value"] (defScope s_is_integer) := ⟨rfl, rfl, rfl, by decide +kernel, rfl, by decide +kernel, by decide +kernel⟩

abbrev s_is_number : Stmt := topS 11
theorem sc_is_number : FnScope ["value"] ["value"] (defScope s_is_number) := ⟨rfl, rfl, rfl, by decide +kernel, rfl, by decide +kernel, by decide +kernel⟩

abbrev s_Ratio___init__ : Stmt := inClass (topS 18) 0
theorem sc_Ratio___init__ : FnScope ["self", "number", "under", "common"] ["self", "number", "under"] (defScope s_Ratio___init__) := ⟨rfl, rfl, rfl, by decide +kernel, rfl, by decide +kernel, by decide +kernel⟩

abbrev s_as_ratio : Stmt := topS 12
theorem sc_as_ratio : FnScope ["number"] ["number"] (defScope s_as_ratio) := ⟨rfl, rfl, rfl, by decide +kernel, rfl, by decide +kernel, by decide +kernel⟩

abbrev ratFs (n u : Int) : List (Str × V) := [("number", .int n), ("under", .int u)]
/-- a Ratio -/
def RatAt (C : Addr) (H : Hp) (v : V) (n u : Int) : Prop := ∃ a dx, v = .ref a ∧ H a = some (.ins C dx (ratFs n u))
theorem RatAt.same {C : Addr} {H H' : Hp} {v : V} {n u : Int} (S : Same H H') (h : RatAt C H v n u) : RatAt C H' v n u := let ⟨a, dx, e, h1⟩ := h; ⟨a, dx, e, S _ _ h1⟩
/-- a number: a Ratio or an int -/
def NumAt (C : Addr) (H : Hp) (v : V) (n u : Int) : Prop := (v = .int n ∧ u = 1) ∨ RatAt C H v n u
theorem NumAt.same {C : Addr} {H H' : Hp} {v : V} {n u : Int} (S : Same H H') (h : NumAt C H v n u) : NumAt C H' v n u := h.imp id fun h => h.same S
def Sm (i : Int) : Prop := -(2 ^ 64) < i ∧ i < 2 ^ 64
def CDivZ (_ j : Int) : Prop := j ≠ 0 ∧ j.natAbs.log2 < 9000
theorem op_fdivZ {X : Cx} : OpR X (binaryOp .FloorDiv) (rI CDivZ fun i j => .int (i.fdiv j)) := opI fun _ _ _ _ _ _ _ hc q => floordiv_int hc.1 q (.inl (PyProof.noPylong_of_log2 hc.2))
def spIsInt (K : PySem.W.Frag) : Sp := fun vs H Q _ => ∃ v t b1 b2, vs = [v] ∧ TyX K H v t ∧ PySem.W.kitOne K t (.type "int") = some b1 ∧ PySem.W.kitOne K t (.type "bool") = some b2 ∧ Q (.bl (b1 && !b2)) H
def spIsNum (K : PySem.W.Frag) (C : Addr) : Sp := fun vs H Q _ => ∃ v t b1 b2 b3, vs = [v] ∧ TyX K H v t ∧ PySem.W.kitOne K t (.type "int") = some b1 ∧ PySem.W.kitOne K t (.type "bool") = some b2 ∧ PySem.W.kitOne K t (.ref C) = some b3 ∧ Q (.bl ((b1 && !b2) || b3)) H
def spInit (K : PySem.W.Frag) (C : Addr) : Sp := fun vs H Q _ => ∃ x dx n u, vs = [.ref x, .int n, .int u] ∧ u ≠ 0 ∧ u.natAbs < 2 ^ 200 ∧ H x = some (.ins C dx []) ∧ Q .non (upd H x (.ins C dx (ratFs (rNum n u) (rUnd n u))))
def spAs (K : PySem.W.Frag) (C : Addr) : Sp := fun vs H Q _ => ∃ v n u, vs = [v] ∧ NumAt C H v n u ∧ ∀ w H', Same H H' → RatAt C H' w n u → Q w H'
theorem numTy {K : PySem.W.Frag} {mg : Str → Option Value} {a : Ad} (T : Txt K mg a) {H : Hp} {v : V} {n u : Int} (h : NumAt a.Ratio H v n u) :
    ∃ ty b1 b2 b3, TyX K H v ty ∧ PySem.W.kitOne K ty (.type "int") = some b1 ∧ PySem.W.kitOne K ty (.type "bool") = some b2 ∧ PySem.W.kitOne K ty (.ref a.Ratio) = some b3 ∧ ((b1 && !b2) || b3) = true := by
  rcases h with ⟨rfl, _⟩ | ⟨x, dx, rfl, e⟩
  · exact ⟨_, true, false, false, .base (.int _), kit_ty (by decide +kernel), kit_ty (by decide +kernel), T.ri.kt _ (by simp), rfl⟩
  · exact ⟨_, false, false, true, .base (.ins e T.cl T.ri.ca T.ri.cn T.ri.ct T.ri.cm), T.ri.ki, T.ri.kb, T.ri.ks, rfl⟩
theorem mulne {u t : Int} (h : 0 < u) (h' : 0 < t) : u * t ≠ 0 := Int.mul_ne_zero (by omega) (by omega)
theorem log_of {u : Int} (h : u.natAbs < 2 ^ 200) : u.natAbs.log2 < 9000 := Nat.lt_of_lt_of_le (PySem.Flt.log2_lt_of (k := 200) (by decide) h) (by decide)
theorem ratTy {K : PySem.W.Frag} {mg : Str → Option Value} {a : Ad} (T : Txt K mg a) {H : Hp} {v : V} {n u : Int} (h : RatAt a.Ratio H v n u) : TyX K H v (.ref a.Ratio) := by
  obtain ⟨x, dx, rfl, e⟩ := h
  exact .base (.ins e T.cl T.ri.ca T.ri.cn T.ri.ct T.ri.cm)
/-- what C(n, u) asks -/
theorem mk_rat {K : PySem.W.Frag} {C : Addr} {H : Hp} {n u : Int} {Q : VK} (h0 : u ≠ 0) (h1 : u.natAbs < 2 ^ 200) (q : ∀ w H', Same H H' → RatAt C H' w (rNum n u) (rUnd n u) → Q w H') :
    ∀ x dx, H x = none → H dx = none → dx ≠ x → spInit K C [.ref x, .int n, .int u] (upd (upd H dx (.own x)) x (.ins C dx [])) (fun v H2 => v = .non ∧ Q (.ref x) H2) E0 := by
  intro x dx hx hdx ne
  refine ⟨x, dx, n, u, rfl, h0, h1, upd_same, rfl, q _ _ (fun b o e => ?_) ⟨x, dx, rfl, upd_same⟩⟩
  rw [upd_ne (ne_of_none e hx), upd_ne (ne_of_none e hx), upd_ne (ne_of_none e hdx)]
  exact e
theorem small200 {u : Int} (h : Sm u) : u.natAbs < 2 ^ 200 := Nat.lt_of_lt_of_le (m := 2 ^ 64) (by obtain ⟨h1, h2⟩ := h; omega) (Nat.pow_le_pow_right (by decide) (by decide))
theorem smul200 {u t : Int} (h : Sm u) (h' : Sm t) : (u * t).natAbs < 2 ^ 200 := by
  refine Nat.lt_of_lt_of_le (m := 2 ^ (64 + 64)) (wide_lt ?_ ?_) (Nat.pow_le_pow_right (by decide) (by decide))
  · obtain ⟨h1, h2⟩ := h; omega
  · obtain ⟨h1, h2⟩ := h'; omega
section
variable {P : Program} {w : World} {K : PySem.W.Frag} {mg : Str → Option Value} {base : Heap} {a : Ad}
theorem ok_is_integer {fd : FuncData} (F : Fun K "is_integer" "is_integer" s_is_integer a.is_integer fd) (T : Txt K mg a) :
    FnOk P w K mg base CX0 1 a.is_integer fd ["value"] (spIsInt K) := by
  refine F.ok sc_is_integer (fun vs H Q E h => ?len) (fun cdv A outer s H vs Q E hr h => ⟨_,
      (pss_one (ps_ret (pe_and (pe_callB call_isi (by rfl) T.n_isinstance (by decide +kernel) (pa_cons (pv 0) (pa_cons (pe_bltn (v := .ty "int") (u := .type "int") (by rfl) T.n_int (by decide +kernel) rfl) pa_nil))) (pe_one (pe_not (pe_callB call_isi (by rfl) T.n_isinstance (by decide +kernel) (pa_cons (pv 0) (pa_cons (pe_bltn (v := .ty "bool") (u := .type "bool") (by rfl) T.n_bool (by decide +kernel) rfl) pa_nil)))))))), ?body⟩)
  case len => obtain ⟨v, t, b1, b2, rfl, _⟩ := h; rfl
  case body =>
    obtain ⟨v, t, b1, b2, rfl, ty, k1, k2, q⟩ := h
    refine ⟨_, rfl, _, _, _, _, b1, rfl, .ty _, ty, k1, b1, rfl, ?_⟩
    cases b1
    · exact iteF q
    · exact iteT ⟨_, rfl, _, _, _, _, b2, rfl, .ty _, ty, k2, b2, rfl, q⟩
theorem ok_is_number {fd : FuncData} (F : Fun K "is_number" "is_number" s_is_number a.is_number fd) (T : Txt K mg a)
    {fd_is_integer : FuncData} (G_is_integer : FnOk P w K mg base CX0 1 a.is_integer fd_is_integer ["value"] (spIsInt K)) (b_is_integer : Binds K fd_is_integer ["value"] []) :
    FnOk P w K mg base CX0 2 a.is_number fd ["value"] (spIsNum K a.Ratio) := by
  refine F.ok sc_is_number (fun vs H Q E h => ?len) (fun cdv A outer s H vs Q E hr h => ⟨_,
      (pss_one (ps_ret (pe_or (pe_call G_is_integer (hr.mono (by omega)) (by rfl) T.g_is_integer T.k_is_integer b_is_integer .nil pass0 (pa_cons (pv 0) pa_nil)) (pe_one (pe_callB call_isi (by rfl) T.n_isinstance (by decide +kernel) (pa_cons (pv 0) (pa_cons (pe_glob (v := .ref a.Ratio) (by rfl) T.g_Ratio rfl) pa_nil))))))), ?body⟩)
  case len => obtain ⟨v, t, b1, b2, b3, rfl, _⟩ := h; rfl
  case body =>
    obtain ⟨v, t, b1, b2, b3, rfl, ty, k1, k2, k3, q⟩ := h
    refine ⟨_, rfl, v, t, b1, b2, rfl, ty, k1, k2, (b1 && !b2), rfl, ?_⟩
    cases hb : (b1 && !b2)
    · rw [hb] at q
      exact iteF ⟨_, rfl, _, _, _, _, b3, rfl, .own _, ty, k3, q⟩
    · rw [hb] at q
      exact iteT q
theorem ok_Ratio___init__ {fd : FuncData} (F : FunD K "__init__" "Ratio.__init__" (defArgs s_Ratio___init__) (defBody s_Ratio___init__) (defScope s_Ratio___init__) [.int 1] [] a.Ratio___init__ fd) (T : Txt K mg a)
    {fd_is_integer : FuncData} (G_is_integer : FnOk P w K mg base CX0 1 a.is_integer fd_is_integer ["value"] (spIsInt K)) (b_is_integer : Binds K fd_is_integer ["value"] []) :
    FnOk P w K mg base CX0 2 a.Ratio___init__ fd ["self", "number", "under"] (spInit K a.Ratio) := by
  refine F.ok sc_Ratio___init__ (fun vs H Q E h => ?len) (fun cdv A outer s H vs Q E hr h => ⟨_,
      (pss_cons (ps_if (PW.pt (pw_or (pt_not (pt_val (pe_call G_is_integer (hr.mono (by omega)) (by rfl) T.g_is_integer T.k_is_integer b_is_integer .nil pass0 (pa_cons (pv 1) pa_nil)))) (pw_or (pt_not (pt_val (pe_call G_is_integer (hr.mono (by omega)) (by rfl) T.g_is_integer T.k_is_integer b_is_integer .nil pass0 (pa_cons (pv 2) pa_nil)))) (pw_or1 (pt_cmpR op_eq (pv 2) pe_int (nomark _)))))) (pss_one ps_never) pss_nil)
      (pss_cons (ps_set (i := 3) sc_Ratio___init__.nd rfl (Or.inl rfl) (pe_ifExp (pt_cmpR op_gt (pv 2) pe_int (nomark _)) (pe_callBfun cr_gcd (by rfl) T.g_gcd (pa_cons (pv 1) (pa_cons (pv 2) pa_nil))) (pe_un un_neg (pe_callBfun cr_gcd (by rfl) T.g_gcd (pa_cons (pv 1) (pa_cons (pv 2) pa_nil))))))
      (pss_cons (ps_fld (pv 0) (pe_op op_fdivZ (pv 1) (pv 3)) rfl)
      (pss_one (ps_fld (pv 0) (pe_op op_fdivZ (pv 2) (pv 3)) rfl))))), ?body⟩)
  case len => obtain ⟨x, dx, n, u, rfl, _⟩ := h; rfl
  case body =>
    obtain ⟨x, dx, n, u, rfl, h0, h1, hx, q⟩ := h
    refine ⟨_, rfl, .int n, .type "int", true, false, rfl, .base (.int _), kit_ty (by decide +kernel), kit_ty (by decide +kernel), _, rfl, iteF ?_⟩
    refine ⟨_, rfl, .int u, .type "int", true, false, rfl, .base (.int _), kit_ty (by decide +kernel), kit_ty (by decide +kernel), _, rfl, iteF ?_⟩
    refine ⟨_, rfl, rfl, _, rfl, ite2 (fun c => ?_) (fun c => ?_)⟩
    · exact absurd (of_decide_eq_true c) (by intro z; injection z with z; exact h0 z)
    have hb : byOf n u ≠ 0 := byOf_ne h0
    have hl : (byOf n u).natAbs.log2 < 9000 := log_of (Nat.lt_of_le_of_lt (byOf_le h0) h1)
    have fin : ∀ g : Int, g = byOf n u → Q .non (upd (upd H x (.ins a.Ratio dx [("number", .int (n.fdiv g))])) x (.ins a.Ratio dx [("number", .int (n.fdiv g)), ("under", .int (u.fdiv g))])) := fun g e => by
      rw [upd_upd, e]
      exact q
    refine ⟨_, rfl, _, _, rfl, rfl, _, rfl, ite2 (fun c2 => ?_) (fun c2 => ?_)⟩
    · have hu : 0 < u := of_decide_eq_true c2
      have e : ((Nat.gcd n.natAbs u.natAbs : Nat) : Int) = byOf n u := by
        unfold byOf
        rw [if_neg (by omega)]
      refine ⟨_, rfl, _, rfl, _, _, rfl, ?_⟩
      refine ⟨_, rfl, _, rfl, _, _, rfl, rfl, ⟨by rw [e]; exact hb, by rw [e]; exact hl⟩, _, rfl, _, _, _, _, rfl, hx, T.cl, T.nN, by decide, ?_⟩
      refine ⟨_, rfl, _, rfl, _, _, rfl, rfl, ⟨by rw [e]; exact hb, by rw [e]; exact hl⟩, _, rfl, _, _, _, _, rfl, upd_same, T.cl, T.nU, (by show 1 < 1000; decide), ?_⟩
      exact fin _ e
    · have hu : ¬ 0 < u := fun z => c2 (decide_eq_true z)
      have e : -((Nat.gcd n.natAbs u.natAbs : Nat) : Int) = byOf n u := by
        unfold byOf
        rw [if_pos (by omega)]
      refine ⟨_, rfl, _, rfl, _, _, rfl, _, rfl, ?_⟩
      refine ⟨_, rfl, _, rfl, _, _, rfl, rfl, ⟨by rw [e]; exact hb, by rw [e]; exact hl⟩, _, rfl, _, _, _, _, rfl, hx, T.cl, T.nN, by decide, ?_⟩
      refine ⟨_, rfl, _, rfl, _, _, rfl, rfl, ⟨by rw [e]; exact hb, by rw [e]; exact hl⟩, _, rfl, _, _, _, _, rfl, upd_same, T.cl, T.nU, (by show 1 < 1000; decide), ?_⟩
      exact fin _ e
theorem ok_as_ratio {fd : FuncData} (F : Fun K "as_ratio" "as_ratio" s_as_ratio a.as_ratio fd) (T : Txt K mg a)
    {fd_Ratio___init__ : FuncData} (G_Ratio___init__ : FnOk P w K mg base CX0 2 a.Ratio___init__ fd_Ratio___init__ ["self", "number", "under"] (spInit K a.Ratio)) (b_Ratio___init__ : Binds K fd_Ratio___init__ ["self", "number", "under"] [])
    {ds_Ratio___init__ : List Value} (d_Ratio___init__ : Vals [.int 1] ds_Ratio___init__ ∧ Binds K fd_Ratio___init__ ["self", "number", "under"] ds_Ratio___init__) :
    FnOk P w K mg base CX0 4 a.as_ratio fd ["number"] (spAs K a.Ratio) := by
  refine F.ok sc_as_ratio (fun vs H Q E h => ?len) (fun cdv A outer s H vs Q E hr h => ⟨_,
      (pss_one (ps_ret (pe_ifExp (pt_val (pe_callB call_isi (by rfl) T.n_isinstance (by decide +kernel) (pa_cons (pv 0) (pa_cons (pe_glob (v := .ref a.Ratio) (by rfl) T.g_Ratio rfl) pa_nil)))) (pv 0) (pe_make T.m_Ratio G_Ratio___init__ (hr.mono (by omega)) (by rfl) T.g_Ratio d_Ratio___init__.2 d_Ratio___init__.1 pass0 (pa_cons (pv 0) pa_nil))))), ?body⟩)
  case len => obtain ⟨v, n, u, rfl, _⟩ := h; rfl
  case body =>
    obtain ⟨v, n, u, rfl, hv, q⟩ := h
    rcases hv with ⟨rfl, rfl⟩ | hv
    · refine ⟨_, rfl, _, _, _, _, false, rfl, .own _, .base (.int _), T.ri.kt _ (by simp), _, rfl, iteF ?_⟩
      refine ⟨_, rfl, mk_rat (by decide) (by decide +kernel) fun w H' S hw => q w H' S ?_⟩
      rw [(red_int n).same.1, (red_int n).same.2] at hw
      exact hw
    · refine ⟨_, rfl, _, _, _, _, true, rfl, .own _, ratTy T hv, T.ri.ks, _, rfl, iteT ?_⟩
      exact ⟨_, rfl, q v H (Same.refl _) hv⟩
end
end My

namespace My
open PySem PySem.Spec PyProof.Rows L2 G
abbrev s__law_common : Stmt := topS 29
theorem sc__law_common : FnScope ["_law_one", "_law_other", "_law_left", "_law_right_here"] ["_law_one", "_law_other"] (defScope s__law_common) := ⟨rfl, rfl, rfl, by decide +kernel, rfl, by decide +kernel, by decide +kernel⟩

abbrev s__law_pair : Stmt := topS 30
theorem sc__law_pair : FnScope ["_law_above", "_law_under", "_law_by"] ["_law_above", "_law_under"] (defScope s__law_pair) := ⟨rfl, rfl, rfl, by decide +kernel, rfl, by decide +kernel, by decide +kernel⟩

abbrev s__law_pair_of : Stmt := topS 32
theorem sc__law_pair_of : FnScope ["_law_made"] ["_law_made"] (defScope s__law_pair_of) := ⟨rfl, rfl, rfl, by decide +kernel, rfl, by decide +kernel, by decide +kernel⟩

/-- a pair of ints -/
def PairAt (H : Hp) (v : V) (n u : Int) : Prop := ∃ p, v = .ref p ∧ H p = some (.tup [.int n, .int u])
theorem PairAt.same {H H' : Hp} {v : V} {n u : Int} (S : Same H H') (h : PairAt H v n u) : PairAt H' v n u := let ⟨p, e, h1⟩ := h; ⟨p, e, S _ _ h1⟩
theorem PairAt.go {p : Addr} {k : Nat} {H H' : Hp} {v : V} {n u : Int} (g : Go p k H H') (h : PairAt H v n u) (hp : PotAt H p 0 ∨ v ≠ .ref p) : PairAt H' v n u := by
  obtain ⟨q, rfl, e⟩ := h
  refine ⟨q, rfl, g.at e fun z => ?_⟩
  rcases hp with ⟨x, y, w, f, _⟩ | hp
  · rw [z, f] at e
    cases e
  · exact hp (by rw [z])
def spCommon : Sp := fun vs H Q _ => ∃ a b : Int, vs = [.int a, .int b] ∧ Q (.int ((Nat.gcd a.natAbs b.natAbs : Nat) : Int)) H
def spPair : Sp := fun vs H Q _ => ∃ a b : Int, vs = [.int a, .int b] ∧ b ≠ 0 ∧ b.natAbs < 2 ^ 200 ∧ ∀ p H', H p = none → Same H H' → PairAt H' (.ref p) (rNum a b) (rUnd a b) → Q (.ref p) H'
def spPo (C : Addr) : Sp := fun vs H Q _ => ∃ v n u, vs = [v] ∧ RatAt C H v n u ∧ ∀ p H', H p = none → Same H H' → PairAt H' (.ref p) n u → Q (.ref p) H'
section
variable {P : Program} {w : World} {K : PySem.W.Frag} {mg : Str → Option Value} {base : Heap} {a : Ad}
theorem ok__law_common {fd : FuncData} (F : Fun K "_law_common" "_law_common" s__law_common a._law_common fd) (T : Txt K mg a) :
    Fn P w K mg base CX0 1 a._law_common fd ["_law_one", "_law_other"] spCommon := by
  refine ok F sc__law_common (fun vs H Q E h => ?len) (fun cdv A outer s H vs Q E hq hr h => ⟨_,
      (pss_cons (ps_par (i := 2) (j := 3) (by rfl) sc__law_common.nd rfl rfl (by decide) rfl rfl (pa_cons (pe_callB call_abs (by rfl) T.n_abs (by decide +kernel) (pa_cons (pe_callTy call_int1 (by rfl) T.n_int (by decide +kernel) (pa_cons (pv 0) pa_nil)) pa_nil)) (pa_cons (pe_callB call_abs (by rfl) T.n_abs (by decide +kernel) (pa_cons (pe_callTy call_int1 (by rfl) T.n_int (by decide +kernel) (pa_cons (pv 1) pa_nil)) pa_nil)) pa_nil)) (by rfl))
      (pss_cons (ps_while PassesOwn.never (pt_cmpR op_gt (pv 3) pe_int (nomark _)) (pss_one (ps_par (i := 2) (j := 3) (by rfl) sc__law_common.nd rfl rfl (by decide) rfl rfl (pa_cons (pv 3) (pa_cons (pe_op op_modN (pe_callTy call_int1 (by rfl) T.n_int (by decide +kernel) (pa_cons (pv 2) pa_nil)) (pe_callTy call_int1 (by rfl) T.n_int (by decide +kernel) (pa_cons (pv 3) pa_nil))) pa_nil)) (by rfl))))
      (pss_one (ps_ret (pv 2))))), ?body⟩)
  case len => obtain ⟨x, y, rfl, _⟩ := h; rfl
  case body =>
    obtain ⟨x, y, rfl, q⟩ := h
    refine ⟨_, rfl, .inl ⟨_, rfl, _, rfl, _, rfl, .inl ⟨_, rfl, _, rfl, _, _, rfl, ?_⟩⟩⟩
    refine while_by (fun σ' H' => ∃ l r : Int, σ' = [some (.int x), some (.int y), some (.int l), some (.int r)] ∧ 0 ≤ l ∧ 0 ≤ r ∧ Nat.gcd l.natAbs r.natAbs = Nat.gcd x.natAbs y.natAbs ∧ H' = H)
      (fun σ' _ => match σ' with | [_, _, _, some (.int r)] => r.toNat | _ => 0) ⟨_, _, rfl, ?_, ?_, ?_, rfl⟩ ?_ ?_
    · show (0 : Int) ≤ if x < 0 then -x else x
      split <;> omega
    · show (0 : Int) ≤ if y < 0 then -y else y
      split <;> omega
    · show Nat.gcd (if x < 0 then -x else x).natAbs (if y < 0 then -y else y).natAbs = _
      have e1 : (if x < 0 then -x else x).natAbs = x.natAbs := by split <;> omega
      have e2 : (if y < 0 then -y else y).natAbs = y.natAbs := by split <;> omega
      rw [e1, e2]
    · rintro σ' H' ⟨l, r, rfl, hl, hr0, hg, rfl⟩
      refine ⟨_, rfl, _, _, rfl, rfl, _, rfl, ite2 (fun c => ?_) (fun c => ?_)⟩
      · have c0 : 0 < r := of_decide_eq_true c
        refine ⟨_, rfl, _, rfl, .inl ⟨_, rfl, _, rfl, .inl ⟨_, rfl, _, _, rfl, rfl, (by show r ≠ 0; omega), _, _, rfl, ⟨_, _, rfl, hr0, ?_, ?_, rfl⟩, ?_⟩⟩⟩
        · exact Int.fmod_nonneg_of_pos _ c0
        · rw [gcd_step hl c0]
          exact hg
        · show (l.fmod r).toNat < r.toNat
          have h1 := Int.fmod_lt_of_pos l c0
          have h2 := Int.fmod_nonneg_of_pos l c0
          omega
      · have c0 : r = 0 := by
          have : ¬ 0 < r := fun z => c (decide_eq_true z)
          omega
        subst c0
        have e : ((Nat.gcd x.natAbs y.natAbs : Nat) : Int) = l := by
          rw [← hg, show (0 : Int).natAbs = 0 from rfl, Nat.gcd_zero_right]
          omega
        rw [e] at q
        exact ⟨_, rfl, q⟩
    · rintro σ' H' Q1 Q2 imp ⟨v, e1, i, j, e2, e3, k, e4, z⟩
      exact ⟨v, e1, i, j, e2, e3, k, e4, imp _ _ z⟩
theorem ok__law_pair {fd : FuncData} (F : Fun K "_law_pair" "_law_pair" s__law_pair a._law_pair fd) (T : Txt K mg a)
    {fd__law_common : FuncData} (G__law_common : Fn P w K mg base CX0 1 a._law_common fd__law_common ["_law_one", "_law_other"] spCommon) (b__law_common : Binds K fd__law_common ["_law_one", "_law_other"] []) :
    Fn P w K mg base CX0 2 a._law_pair fd ["_law_above", "_law_under"] spPair := by
  refine ok F sc__law_pair (fun vs H Q E h => ?len) (fun cdv A outer s H vs Q E hq hr h => ⟨_,
      (pss_cons (ps_set (i := 2) sc__law_pair.nd rfl (Or.inl rfl) (pe_fn G__law_common hq (hr.mono (by omega)) (by rfl) T.g__law_common T.k__law_common b__law_common .nil pass0 (pa_cons (pv 0) (pa_cons (pv 1) pa_nil))))
      (pss_cons (ps_set (i := 2) sc__law_pair.nd rfl (Or.inl rfl) (pe_ifExp (pt_cmpR op_lt (pv 1) pe_int (nomark _)) (pe_un un_neg (pv 2)) (pv 2)))
      (pss_one (ps_ret (pe_tup (pa_cons (pe_op op_fdivZ (pv 0) (pv 2)) (pa_cons (pe_op op_fdivZ (pv 1) (pv 2)) pa_nil))))))), ?body⟩)
  case len => obtain ⟨x, y, rfl, _⟩ := h; rfl
  case body =>
    obtain ⟨x, y, rfl, h0, h1, q⟩ := h
    have hb : byOf x y ≠ 0 := byOf_ne h0
    have hl : (byOf x y).natAbs.log2 < 9000 := log_of (Nat.lt_of_le_of_lt (byOf_le h0) h1)
    have fin : ∀ g : Int, g = byOf x y → ∀ p, H p = none → Q (.ref p) (upd H p (.tup [.int (x.fdiv g), .int (y.fdiv g)])) := fun g e p hp => by
      refine q p _ hp (same_new hp) ⟨p, rfl, ?_⟩
      rw [e]
      exact upd_same
    refine ⟨_, rfl, _, rfl, x, y, rfl, _, rfl, _, _, rfl, rfl, _, rfl, ite2 (fun c => ?_) (fun c => ?_)⟩
    · have e : -((Nat.gcd x.natAbs y.natAbs : Nat) : Int) = byOf x y := by
        unfold byOf
        rw [if_pos (of_decide_eq_true c)]
      refine ⟨_, rfl, _, rfl, ?_⟩
      refine ⟨_, rfl, _, rfl, _, _, rfl, rfl, ⟨by rw [e]; exact hb, by rw [e]; exact hl⟩, _, rfl, _, rfl, _, _, rfl, rfl, ⟨by rw [e]; exact hb, by rw [e]; exact hl⟩, (by show 2 ≤ sizeLine; decide), ?_⟩
      exact fin _ e
    · have e : ((Nat.gcd x.natAbs y.natAbs : Nat) : Int) = byOf x y := by
        unfold byOf
        rw [if_neg fun z => c (decide_eq_true z)]
      refine ⟨_, rfl, ?_⟩
      refine ⟨_, rfl, _, rfl, _, _, rfl, rfl, ⟨by rw [e]; exact hb, by rw [e]; exact hl⟩, _, rfl, _, rfl, _, _, rfl, rfl, ⟨by rw [e]; exact hb, by rw [e]; exact hl⟩, (by show 2 ≤ sizeLine; decide), ?_⟩
      exact fin _ e
theorem ok__law_pair_of {fd : FuncData} (F : Fun K "_law_pair_of" "_law_pair_of" s__law_pair_of a._law_pair_of fd) (T : Txt K mg a) :
    Fn P w K mg base CX0 1 a._law_pair_of fd ["_law_made"] (spPo a.Ratio) := by
  refine ok F sc__law_pair_of (fun vs H Q E h => ?len) (fun cdv A outer s H vs Q E hq hr h => ⟨_,
      (pss_one (ps_ret (pe_tup (pa_cons (pe_fld (pv 0) rfl) (pa_cons (pe_fld (pv 0) rfl) pa_nil))))), ?body⟩)
  case len => obtain ⟨v, n, u, rfl, _⟩ := h; rfl
  case body =>
    obtain ⟨v, n, u, rfl, ⟨x, dx, rfl, hx⟩, q⟩ := h
    refine ⟨_, rfl, _, _, _, _, _, rfl, hx, T.cl, T.nN, rfl, _, rfl, _, _, _, _, _, rfl, hx, T.cl, T.nU, rfl, (by show 2 ≤ sizeLine; decide), fun p hp => ?_⟩
    exact q p _ hp (same_new hp) ⟨p, rfl, upd_same⟩
end
end My

namespace My
open PySem PySem.Spec PyProof.Rows L2 G
abbrev s__law_odd : Stmt := topS 28
theorem sc__law_odd : FnScope ["_law_pot_here", "_law_some"] ["_law_pot_here"] (defScope s__law_odd) := ⟨rfl, rfl, rfl, by decide +kernel, rfl, by decide +kernel, by decide +kernel⟩

theorem gd_dict1 {n k N : Nat} {x : Str} {d : PyData} (g : Gd n k d) (hx : gdB 8 0 (.str x) = true) (hN : 8 + n + 2 ≤ N) : Gd N (k + 1) (.dict [(.str x, d)]) := by
  have h := gdB_ok hx
  refine ⟨?_, ?_, ?_, ?_⟩
  · simp only [PyData.leavesShort, PyData.leavesShortKv, Bool.and_true, Bool.and_eq_true]; exact ⟨h.short, g.short⟩
  · simp only [PyData.showable, PyData.showableKv, Bool.and_true, Bool.and_eq_true]; exact ⟨trivial, g.show_⟩
  · simp only [PyData.depth, PyData.depthKv]; have := g.depth; omega
  · simp only [PyData.weight, PyData.weightKv]; have := g.weight; have := h.weight; simp only [PyData.weight] at this; omega
/-- what an odd value is: short data, an int that is not too long -/
def OddG (d : PyData) : Prop := Gd 60 4 d ∧ ∀ i, d = .int i → -(10 ^ 9) ≤ i ∧ i ≤ 10 ^ 9
def spOdd0 : Sp := fun vs H Q _ => ∃ (p : Addr) (n : Nat), vs = [.ref p] ∧ PotAt H p n ∧ n ≤ 100000 ∧ ∀ v H', (∀ N, Tr N H → Is N H' OddG v) → Go p (n + 1) H H' → Q v H'
local macro_rules | `(tactic| walk_at "gd") => `(tactic| exact gdB_ok (by decide +kernel))
local macro_rules | `(tactic| walk_at "ev") => `(tactic| repeat (first
  | exact eva_nil
  | apply eva_cons
  | exact evg_int (gdB_ok (by decide +kernel))
  | exact evg_str (gdB_ok (by decide +kernel))
  | exact evg_bl (gdB_ok (by decide +kernel))
  | exact evg_non (gdB_ok (by decide +kernel))
  | exact evg_neg (gdB_ok (by decide +kernel))
  | exact evg_pow ⟨by decide, by decide, by decide +kernel⟩ (gdB_ok (by decide +kernel))
  | exact evg_dnew (by assumption) (gdB_ok (by decide +kernel))
  | (apply evg_tup (G' := Gd 8 3); (case h => walk_at "ev"); (case t => assumption); (case hm => decide); (case g => exact fun ds l h => gd_tup h (Nat.le_of_eq l) (by decide)))
  | (apply evg_tup (G' := Gd 3 2); (case h => walk_at "ev"); (case t => assumption); (case hm => decide); (case g => exact fun ds l h => gd_tup h (Nat.le_of_eq l) (by decide)))
  | (apply evg_lst (G' := Gd 8 3); (case h => walk_at "ev"); (case t => assumption); (case hm => decide); (case g => exact fun ds l h => gd_lst h (Nat.le_of_eq l) (by decide)))
  | exact evg_dict1 (G' := Gd 8 3) (by assumption) (fun q H1 S => evg_int (gdB_ok (by decide +kernel))) (fun d g => gd_dict1 g (by decide +kernel) (by decide))))

local macro_rules | `(tactic| walk_at "evz") => `(tactic| repeat (first
  | exact eva_nil
  | apply eva_cons
  | exact evg_int ⟨gdB_ok (by decide +kernel), fun i e => by cases e; decide⟩
  | exact evg_str ⟨gdB_ok (by decide +kernel), fun i e => nomatch e⟩
  | exact evg_bl ⟨gdB_ok (by decide +kernel), fun i e => nomatch e⟩
  | exact evg_non ⟨gdB_ok (by decide +kernel), fun i e => nomatch e⟩
  | exact evg_neg ⟨gdB_ok (by decide +kernel), fun i e => by cases e; decide⟩
  | exact evg_pow ⟨by decide, by decide, by decide +kernel⟩ ⟨gdB_ok (by decide +kernel), fun i e => by cases e; decide⟩
  | exact evg_dnew (by assumption) ⟨gdB_ok (by decide +kernel), fun i e => nomatch e⟩
  | (apply evg_tup (G' := Gd 8 3); (case h => walk_at "ev"); (case t => assumption); (case hm => decide); (case g => exact fun ds l h => ⟨gd_tup h (Nat.le_of_eq l) (by decide), fun i e => nomatch e⟩))
  | (apply evg_tup (G' := Gd 3 2); (case h => walk_at "ev"); (case t => assumption); (case hm => decide); (case g => exact fun ds l h => ⟨gd_tup h (Nat.le_of_eq l) (by decide), fun i e => nomatch e⟩))
  | (apply evg_lst (G' := Gd 8 3); (case h => walk_at "ev"); (case t => assumption); (case hm => decide); (case g => exact fun ds l h => ⟨gd_lst h (Nat.le_of_eq l) (by decide), fun i e => nomatch e⟩))
  | exact evg_dict1 (G' := Gd 8 3) (by assumption) (fun q H1 S => evg_int (gdB_ok (by decide +kernel))) (fun d g => ⟨gd_dict1 g (by decide +kernel) (by decide), fun i e => nomatch e⟩)))
section
variable {P : Program} {w : World} {K : PySem.W.Frag} {mg : Str → Option Value} {base : Heap} {a : Ad}
theorem ok__law_odd {fd : FuncData} (F : Fun K "_law_odd" "_law_odd" s__law_odd a._law_odd fd) (T : Txt K mg a)
    {fd__law_of : FuncData} (G__law_of : Fn P w K mg base CX0 2 a._law_of fd__law_of ["_law_pot_here", "_law_some"] spOf) (b__law_of : Binds K fd__law_of ["_law_pot_here", "_law_some"] []) :
    Fn P w K mg base CX0 3 a._law_odd fd ["_law_pot_here"] spOdd0 := by
  refine ok F sc__law_odd (fun vs H Q E h => ?len) (fun cdv A outer s H vs Q E hq hr h => ⟨_,
      (pss_cons (ps_set (i := 1) sc__law_odd.nd rfl (Or.inl rfl) (pe_lstS (pa_cons pe_non (pa_cons pe_bl (pa_cons pe_bl (pa_cons pe_int (pa_cons pe_int (pa_cons (pe_un un_neg pe_int) (pa_cons pe_int (pa_cons pe_int (pa_cons pe_str (pa_cons pe_str (pa_cons pe_str (pa_cons pe_str (pa_cons (pe_tup pa_nil) (pa_cons (pe_lstS pa_nil) (pa_cons pe_dnewK (pa_cons (pe_tup (pa_cons pe_int pa_nil)) (pa_cons (pe_tup (pa_cons (pe_tup pa_nil) pa_nil)) (pa_cons (pe_lstS (pa_cons pe_int pa_nil)) (pa_cons (pe_tup (pa_cons pe_str (pa_cons pe_int pa_nil))) (pa_cons (pe_disp (pps_cons pe_str pe_int pps_nil) (by rfl) (by rfl) (fun z => by cases z) (by decide)) pa_nil))))))))))))))))))))))
      (pss_one (ps_ret (pe_fn G__law_of hq (hr.mono (by omega)) (by rfl) T.g__law_of T.k__law_of b__law_of .nil pass0 (pa_cons (pv 0) (pa_cons (pe_op op_cat (pv 1) (pe_lstS (pa_cons (pe_tup (pa_cons (pe_tup (pa_cons pe_str pa_nil)) pa_nil)) (pa_cons (pe_tup (pa_cons pe_str (pa_cons pe_str pa_nil))) (pa_cons (pe_tup (pa_cons pe_int (pa_cons pe_int pa_nil))) (pa_cons (pe_tup (pa_cons (pe_tup (pa_cons pe_int (pa_cons pe_int pa_nil))) pa_nil)) (pa_cons (pe_tup (pa_cons pe_non pa_nil)) (pa_cons (pe_op op_powW pe_int pe_int) (pa_cons pe_str (pa_cons (pe_tup (pa_cons pe_bl pa_nil)) (pa_cons (pe_tup (pa_cons pe_int (pa_cons (pe_un un_neg pe_int) (pa_cons pe_int pa_nil)))) pa_nil))))))))))) pa_nil)))))), ?body⟩)
  case len => obtain ⟨p, n, rfl, _⟩ := h; rfl
  case body =>
    obtain ⟨p, n, rfl, pot, hn, q⟩ := h
    have t : Tr (fun b => H b ≠ none) H := fun _ h => h
    refine s_set (eva_list (G := OddG) (m := 20) t ?ev1 (by decide) fun l xs H1 S1 nl hl sl ll hx => ?_)
    case ev1 => walk_at "evz"
    have t1 : Tr (fun b => H b ≠ none) H1 := t.same S1
    refine ⟨_, rfl, _, rfl, ?_⟩
    refine eva_list (G := OddG) (m := 9) t1 ?ev2 (by decide) fun l2 ys H2 S2 nl2 hl2 sl2 ll2 hy => ?_
    case ev2 => walk_at "evz"
    refine ⟨_, _, _, _, rfl, rfl, S2 _ _ hl, hl2, by rw [ll, ll2]; decide, fun l3 n3 => ?_⟩
    have pot3 : PotAt (upd H2 l3 (.lst (xs ++ ys))) p n := ((pot.same S1).same S2).same (same_new n3)
    have n3p : l3 ≠ p := fun e => by
      rw [e] at n3
      exact ((pot.same S1).same S2).has n3
    refine ⟨p, l3, n, xs ++ ys, rfl, n3p, pot3, hn, upd_same, (by intro e; have z := congrArg List.length e; rw [List.length_append, ll, ll2] at z; exact absurd z (by decide)), by rw [List.length_append, ll, ll2]; decide, fun x H4 hm g => ?_⟩
    refine q x H4 (fun N tN => ?_) (Go.of ((S1.trans S2).trans (same_new n3)) g)
    have hx3 : Is (fun b => H b ≠ none) (upd H2 l3 (.lst (xs ++ ys))) OddG x := by
      rcases List.mem_append.mp hm with z | z
      · exact ((hx x z).same S2).same (same_new n3)
      · exact (hy x z).same (same_new n3)
    exact (g.is pot.has hx3).less tN
end
end My

namespace My
open PySem PySem.Spec PyProof.Rows L2 G SX NumText
abbrev s_written : Stmt := topS 14
theorem sc_written : FnScope ["integer", "parts", "rest", "part"] ["integer"] (defScope s_written) := ⟨rfl, rfl, rfl, by decide +kernel, rfl, by decide +kernel, by decide +kernel⟩

abbrev s__has_figures_alone : Stmt := topS 15
theorem sc__has_figures_alone : FnScope ["word"] ["word"] (defScope s__has_figures_alone) := ⟨rfl, rfl, rfl, by decide +kernel, rfl, by decide +kernel, by decide +kernel⟩

abbrev s__worth : Stmt := topS 16
theorem sc__worth : FnScope ["word", "worth", "padded", "start"] ["word"] (defScope s__worth) := ⟨rfl, rfl, rfl, by decide +kernel, rfl, by decide +kernel, by decide +kernel⟩

abbrev s_Ratio_text : Stmt := inClass (topS 18) 1
theorem sc_Ratio_text : FnScope ["self"] ["self"] (defScope s_Ratio_text) := ⟨rfl, rfl, rfl, by decide +kernel, rfl, by decide +kernel, by decide +kernel⟩

def spWritten : Sp := fun vs H Q _ => ∃ i : Int, vs = [.int i] ∧ i.natAbs < 10 ^ 64 ∧ ∀ H', Same H H' → Q (.str (S (intL i))) H'
def spFig : Sp := fun vs H Q _ => ∃ l, vs = [.str (S l)] ∧ Q (.bl (figs l)) H
def spWorth : Sp := fun vs H Q _ => ∃ l, vs = [.str (S l)] ∧ figs l = true ∧ l.length ≤ 64 ∧ Q (.int ((digitsVal l : Nat) : Int)) H
def spText (C : Addr) : Sp := fun vs H Q _ => ∃ v n u, vs = [v] ∧ RatAt C H v n u ∧ n.natAbs < 10 ^ 64 ∧ 0 < u ∧ u.natAbs < 10 ^ 64 ∧ ∀ H', Same H H' → Q (.str (S (ratL n u))) H'
theorem log64 {i : Int} (h : i.natAbs < 10 ^ 64) : i.natAbs.log2 < 1920 := Nat.lt_of_lt_of_le (PySem.Flt.log2_lt_of (k := 213) (by decide) (Nat.lt_of_lt_of_le h (by decide +kernel))) (by decide)
theorem intL_short {i : Int} (h : i.natAbs < 10 ^ 64) : (intL i).length ≤ 65 := intL_le (by decide) h
section
variable {P : Program} {w : World} {K : PySem.W.Frag} {mg : Str → Option Value} {base : Heap} {a : Ad}
theorem ok_written {fd : FuncData} (F : Fun K "written" "written" s_written a.written fd) (T : Txt K mg a) :
    FnOk P w K mg base CX0 1 a.written fd ["integer"] spWritten := by
  refine F.ok sc_written (fun vs H Q E h => ?len) (fun cdv A outer s H vs Q E hr h => ⟨_,
      (pss_cons (ps_set (i := 1) sc_written.nd rfl (Or.inl rfl) (pe_lstS pa_nil))
      (pss_cons (ps_set (i := 2) sc_written.nd rfl (Or.inl rfl) (pe_callB call_abs (by rfl) T.n_abs (by decide +kernel) (pa_cons (pv 0) pa_nil)))
      (pss_cons (ps_while PassesOwn.never (pt_cmpR op_ge (pv 2) (pe_glob (v := .int (10 ^ 64)) (by rfl) T.g_PART.choose_spec ⟨_, rfl⟩) (nomark _)) (pss_cons ps_never
      (pss_one ps_never)))
      (pss_cons (ps_expr (pe_bm PySem.F.plainAttrs_list PySem.F.slot_list_append PySem.F.type_list_append mt_append (pv 1) (pa_cons (pe_callTy call_str_int (by rfl) T.n_str (by decide +kernel) (pa_cons (pv 2) pa_nil)) pa_nil)))
      (pss_cons (ps_if (pt_cmpR op_lt (pv 0) pe_int (nomark _)) (pss_one (ps_expr (pe_bm PySem.F.plainAttrs_list PySem.F.slot_list_append PySem.F.type_list_append mt_append (pv 1) (pa_cons pe_str pa_nil)))) pss_nil)
      (pss_one (ps_ret (pe_join pe_str (pe_revL (pv 1)))))))))), ?body⟩)
  case len => obtain ⟨i, rfl, _⟩ := h; rfl
  case body =>
    obtain ⟨i, rfl, i1, q⟩ := h
    refine ⟨(by show 0 ≤ sizeLine; decide), fun l hl sl => ?_⟩
    refine ⟨_, rfl, _, rfl, ?_⟩
    have ea : (if i < 0 then -i else i) = ((i.natAbs : Nat) : Int) := by split <;> omega
    rw [ea]
    refine while_by (fun σ' H' => σ' = [some (.int i), some (.ref l), some (.int ((i.natAbs : Nat) : Int)), none] ∧ H' = upd H l (.lst [])) (fun _ _ => 0) ⟨rfl, rfl⟩ ?_ ?_
    · rintro σ' H' ⟨rfl, rfl⟩
      refine ⟨_, rfl, _, _, rfl, rfl, _, rfl, ite2 (fun c => ?_) (fun c => ?_)⟩
      · exact absurd (of_decide_eq_true c) (by show ¬ (10 ^ 64 : Int) ≤ ((i.natAbs : Nat) : Int); omega)
      have lg : (((i.natAbs : Nat) : Int)).natAbs.log2 < 1920 := log64 i1
      refine ⟨_, rfl, .inl ⟨rfl, _, SqL.of upd_same⟩, _, rfl, ((i.natAbs : Nat) : Int), rfl, lg, _, _, _, rfl, rfl, upd_same, (by show 0 < sizeLine; decide), ?_⟩
      have num : Str.ofString (toString ((i.natAbs : Nat) : Int)) = S (TL.numL i.natAbs) := num_S _
      have nl : (TL.numL i.natAbs).length ≤ 64 := TL.numL_len (by decide) i1
      rw [upd_upd]
      refine ⟨_, rfl, _, _, rfl, rfl, _, rfl, ite2 (fun c2 => ?_) (fun c2 => ?_)⟩
      · have neg : i < 0 := of_decide_eq_true c2
        refine ⟨_, rfl, .inl ⟨rfl, _, SqL.of upd_same⟩, _, _, _, rfl, rfl, upd_same, (by show 1 < sizeLine; decide), ?_⟩
        rw [upd_upd]
        refine ⟨⟨_, rfl⟩, _, rfl, l, _, rfl, SqL.of upd_same, fun p hp => ?_⟩
        refine ⟨S [], p, [S [45], S (TL.numL i.natAbs)], rfl, rfl, .inl (SqL.of (upd_same.trans ?_)), ?_, ?_⟩
        · rw [num]
          rfl
        · simp only [List.map_cons, List.map_nil, List.sum_cons, List.sum_nil, List.length_cons, List.length_nil]
          rw [S_len, S_len, S_len, List.length_singleton, List.length_nil]
          omega
        · have e : Txt.join (S []) [S [45], S (TL.numL i.natAbs)] = S (intL i) := by
            have := join_S [] [[45], TL.numL i.natAbs]
            refine Eq.trans this ?_
            unfold intL
            rw [if_pos neg]
            rfl
          rw [e]
          exact q _ ((same_new hl).trans (same_new hp))
      · have pos : ¬ i < 0 := fun z => c2 (decide_eq_true z)
        refine ⟨⟨_, rfl⟩, _, rfl, l, _, rfl, SqL.of upd_same, fun p hp => ?_⟩
        refine ⟨S [], p, [S (TL.numL i.natAbs)], rfl, rfl, .inl (SqL.of (upd_same.trans ?_)), ?_, ?_⟩
        · rw [num]
          rfl
        · simp only [List.map_cons, List.map_nil, List.sum_cons, List.sum_nil, List.length_cons, List.length_nil]
          rw [S_len, S_len, List.length_nil]
          omega
        · have e : Txt.join (S []) [S (TL.numL i.natAbs)] = S (intL i) := by
            have := join_S [] [TL.numL i.natAbs]
            refine Eq.trans this ?_
            unfold intL
            rw [if_neg pos]
            rfl
          rw [e]
          exact q _ ((same_new hl).trans (same_new hp))
    · rintro σ' H' Q1 Q2 imp ⟨v, e1, i, j, e2, e3, k, e4, z⟩
      exact ⟨v, e1, i, j, e2, e3, k, e4, imp _ _ z⟩
theorem ok__has_figures_alone {fd : FuncData} (F : Fun K "_has_figures_alone" "_has_figures_alone" s__has_figures_alone a._has_figures_alone fd) (T : Txt K mg a) :
    FnOk P w K mg base CX0 1 a._has_figures_alone fd ["word"] spFig := by
  refine F.ok sc__has_figures_alone (fun vs H Q E h => ?len) (fun cdv A outer s H vs Q E hr h => ⟨_,
      (pss_one (ps_ret (pe_and (pe_m0 PySem.F.slot_str_isascii PySem.F.type_str_isascii mt_isascii (pv 0)) (pe_one (pe_m0 PySem.F.slot_str_isdigit PySem.F.type_str_isdigit mt_isdigit (pv 0)))))), ?body⟩)
  case len => obtain ⟨l, rfl, _⟩ := h; rfl
  case body =>
    obtain ⟨l, rfl, q⟩ := h
    refine ⟨_, rfl, ⟨_, rfl⟩, _, rfl, rfl, trivial, _, rfl, ?_⟩
    rw [ascii_S]
    cases c : l.all (· < 128)
    · refine iteF ?_
      have e : figs l = false := by
        cases e : figs l
        · rfl
        · rw [figs_ascii e] at c
          cases c
      rw [e] at q
      exact q
    · refine iteT ⟨_, rfl, ⟨_, rfl⟩, _, rfl, rfl, trivial, ?_⟩
      rw [isdigit_S c]
      exact q
theorem ok__worth {fd : FuncData} (F : Fun K "_worth" "_worth" s__worth a._worth fd) (T : Txt K mg a) :
    FnOk P w K mg base CX0 1 a._worth fd ["word"] spWorth := by
  refine F.ok sc__worth (fun vs H Q E h => ?len) (fun cdv A outer s H vs Q E hr h => ⟨_,
      (pss_cons (ps_set (i := 1) sc__worth.nd rfl (Or.inl rfl) pe_int)
      (pss_cons (ps_set (i := 2) sc__worth.nd rfl (Or.inl rfl) (pe_m1 PySem.F.slot_str_zfill PySem.F.type_str_zfill mt_zfill (pv 0) (pe_op op_mul (pe_un un_neg (pe_op op_fdivZ (pe_un un_neg (pe_callB call_len_str (by rfl) T.n_len (by decide +kernel) (pa_cons (pv 0) pa_nil))) (pe_glob (v := .int 64) (by rfl) T.g_FIG.choose_spec ⟨_, rfl⟩))) (pe_glob (v := .int 64) (by rfl) T.g_FIG.choose_spec ⟨_, rfl⟩))))
      (pss_cons (ps_for PassesOwn.never rfl (pi_range3 (by rfl) T.n_range (pa_cons pe_int (pa_cons (pe_callB call_len_str (by rfl) T.n_len (by decide +kernel) (pa_cons (pv 2) pa_nil)) (pa_cons (pe_glob (v := .int 64) (by rfl) T.g_FIG.choose_spec ⟨_, rfl⟩) pa_nil)))) (pg_name (i := 3) sc__worth.nd rfl (Or.inl rfl)) (pss_one (ps_set (i := 1) sc__worth.nd rfl (Or.inl rfl) (pe_op op_add (pe_op op_mul (pv 1) (pe_glob (v := .int (10 ^ 64)) (by rfl) T.g_PART.choose_spec ⟨_, rfl⟩)) (pe_callTy call_int_str (by rfl) T.n_int (by decide +kernel) (pa_cons (pe_slice C8.sl_txt (pv 2) (po_some (pv 3)) (po_some (pe_op op_add (pv 3) (pe_glob (v := .int 64) (by rfl) T.g_FIG.choose_spec ⟨_, rfl⟩)))) pa_nil))))))
      (pss_one (ps_ret (pv 1)))))), ?body⟩)
  case len => obtain ⟨l, rfl, _⟩ := h; rfl
  case body =>
    obtain ⟨l, rfl, hf, hl, q⟩ := h
    have ne : 1 ≤ l.length := by
      have := (figs_of hf).1
      cases l
      · exact absurd rfl this
      · simp
    have e1 : (-(((l.length : Nat) : Int))).fdiv 64 = -1 := by
      rw [Int.fdiv_eq_ediv_of_nonneg _ (by decide)]
      omega
    have ew : -((-(((S l).length : Nat) : Int)).fdiv 64) * 64 = 64 := by rw [S_len, e1]; rfl
    have ez : Txt.zfill (S l) 64 = S (filled 64 l) := zfill_S (k := 64) hf hl
    have lf : (filled 64 l).length = 64 := filled_len hl
    refine ⟨_, rfl, ⟨_, rfl⟩, _, rfl, S l, rfl, by rw [S_len, sizeLine_eq]; omega, _, rfl, _, _, rfl, rfl, ⟨by decide, by decide +kernel⟩, _, rfl, _, _, rfl, rfl, .inr ⟨by decide, by decide⟩, S l, 64, rfl, congrArg (fun i : Int => [V.int i]) ew, rfl, ?_⟩
    rw [ez]
    refine ⟨_, rfl, S (filled 64 l), rfl, by rw [S_len, sizeLine_eq]; omega, 0, 64, 64, 1, by rw [S_len, lf]; rfl, ⟨by decide, by decide, by decide +kernel, by decide +kernel⟩, ?_⟩
    refine for_rangeC (fun i σ H' => H' = H ∧ ∃ s3, σ = [some (.str (S l)), some (.int (if i = 0 then 0 else ((digitsVal l : Nat) : Int))), some (.str (S (filled 64 l))), s3]) ⟨rfl, none, rfl⟩ ?_ ?_
    · rintro i σ H' hi ⟨rfl, s3, rfl⟩
      obtain rfl : i = 0 := by omega
      have es : Txt.slice (S (filled 64 l)) (some (0 + ((0 : Nat) : Int) * 64)) (some (0 + ((0 : Nat) : Int) * 64 + 64)) = S (filled 64 l) := by
        refine (slice_ab (filled 64 l) 0 64).trans ?_
        rw [lf]
        show S ((filled 64 l).take 64) = _
        rw [List.take_of_length_le (by omega)]
      refine ⟨_, rfl, _, _, rfl, rfl, .inl ⟨by rw [if_pos rfl]; decide, by rw [if_pos rfl]; decide⟩, ?_⟩
      refine ⟨_, rfl, _, rfl, _, rfl, _, rfl, _, _, rfl, rfl, _, rfl, S (filled 64 l), rfl, by rw [S_len, sizeLine_eq]; omega, S (filled 64 l), ((digitsVal l : Nat) : Int), by rw [es], int_filled hf hl (by decide), by rw [S_len]; omega, ?_⟩
      have ev : (if (0 : Nat) = 0 then (0 : Int) else ((digitsVal l : Nat) : Int)) * 10 ^ 64 + ((digitsVal l : Nat) : Int) = if 0 + 1 = 0 then 0 else ((digitsVal l : Nat) : Int) := by
        rw [if_pos rfl, if_neg (by decide)]
        omega
      exact ⟨_, _, rfl, rfl, rfl, some (.int (0 + ((0 : Nat) : Int) * 64)), congrArg (fun v : Int => [some (V.str (S l)), some (V.int v), some (V.str (S (filled 64 l))), some (V.int (0 + ((0 : Nat) : Int) * 64))]) ev⟩
    · rintro σ H' ⟨rfl, s3, rfl⟩
      exact ⟨_, rfl, q⟩
theorem ok_Ratio_text {fd : FuncData} (F : Fun K "text" "Ratio.text" s_Ratio_text a.Ratio_text fd) (T : Txt K mg a)
    {fd_written : FuncData} (G_written : FnOk P w K mg base CX0 1 a.written fd_written ["integer"] spWritten) (b_written : Binds K fd_written ["integer"] []) :
    FnOk P w K mg base CX0 2 a.Ratio_text fd ["self"] (spText a.Ratio) := by
  refine F.ok sc_Ratio_text (fun vs H Q E h => ?len) (fun cdv A outer s H vs Q E hr h => ⟨_,
      (pss_cons (ps_if (pt_cmpR op_eq (pe_fld (pv 0) rfl) pe_int (nomark _)) (pss_one (ps_ret (pe_call G_written (hr.mono (by omega)) (by rfl) T.g_written T.k_written b_written .nil pass0 (pa_cons (pe_fld (pv 0) rfl) pa_nil)))) pss_nil)
      (pss_one (ps_ret (pe_joined (.cons (pe_fmt (pe_call G_written (hr.mono (by omega)) (by rfl) T.g_written T.k_written b_written .nil pass0 (pa_cons (pe_fld (pv 0) rfl) pa_nil))) (.cons pe_str (.cons (pe_fmt (pe_call G_written (hr.mono (by omega)) (by rfl) T.g_written T.k_written b_written .nil pass0 (pa_cons (pe_fld (pv 0) rfl) pa_nil))) .nil))))))), ?body⟩)
  case len => obtain ⟨v, n, u, rfl, _⟩ := h; rfl
  case body =>
    obtain ⟨v, n, u, rfl, ⟨x, dx, rfl, hx⟩, n1, u0, u1, q⟩ := h
    refine ⟨_, rfl, _, _, _, _, _, rfl, hx, T.cl, T.nU, rfl, rfl, _, rfl, ite2 (fun c => ?_) (fun c => ?_)⟩
    · have e : u = 1 := by
        have z := of_decide_eq_true c
        injection z
      rw [e, ratL_one] at q
      exact ⟨_, rfl, _, _, _, _, _, rfl, hx, T.cl, T.nN, rfl, n, rfl, n1, q⟩
    · have e : u ≠ 1 := fun z => c (decide_eq_true (by rw [z]))
      rw [ratL_two e] at q
      have l1 := intL_short n1
      have l2 := intL_short u1
      refine ⟨_, rfl, _, _, _, _, _, rfl, hx, T.cl, T.nN, rfl, n, rfl, n1, fun H1 S1 => .inl ⟨_, rfl, by rw [S_len, sizeLine_eq]; omega, _, rfl, ?_, _, rfl, ?_, _, rfl, _, _, _, _, _, rfl, S1 _ _ hx, T.cl, T.nU, rfl, u, rfl, u1, fun H2 S2 => .inl ⟨_, rfl, by rw [S_len, sizeLine_eq]; omega, _, rfl, ?_, ?_⟩⟩⟩
      · rw [emp_cat, S_len, sizeLine_eq]
        omega
      · rw [emp_cat, stroke_S, S_cat, S_len, sizeLine_eq, List.length_append, List.length_singleton]
        omega
      · rw [emp_cat, stroke_S, S_cat, S_cat, S_len, sizeLine_eq, List.length_append, List.length_append, List.length_singleton]
        omega
      · rw [emp_cat, stroke_S, S_cat, S_cat, List.append_assoc]
        exact q _ (S1.trans S2)
end
end My

namespace My
open PySem PySem.Spec PyProof.Rows L2 G SX NumText
abbrev s_read_ratio : Stmt := topS 17
theorem sc_read_ratio : FnScope ["value", "above", "stroke", "below", "words", "number", "under", "ratio", "word"] ["value"] (defScope s_read_ratio) := ⟨rfl, rfl, rfl, by decide +kernel, rfl, by decide +kernel, by decide +kernel⟩

abbrev s_Ratio_of : Stmt := inClass (topS 18) 2
theorem sc_Ratio_of : FnScope ["text", "ratio"] ["text"] (defScope s_Ratio_of) := ⟨rfl, rfl, rfl, by decide +kernel, rfl, by decide +kernel, by decide +kernel⟩

def NoStr (K : PySem.W.Frag) (H : Hp) (v : V) : Prop := ∃ t, TyX K H v t ∧ PySem.W.kitOne K t (.type "str") = some false
/-- a text that can be read, by its signs -/
def spRead (K : PySem.W.Frag) (C : Addr) : Sp := fun vs H Q _ => ∃ v, vs = [v] ∧ ((NoStr K H v ∧ Q .non H) ∨ ∃ l, v = .str (S l) ∧ l.length ≤ 60 ∧
  ((∃ n u, IsRat l n u ∧ ∀ w H', Same H H' → RatAt C H' w n u → Q w H') ∨ ((∀ n u, ¬ IsRat l n u) ∧ ∀ H', Same H H' → Q .non H')))
def spOf_R (K : PySem.W.Frag) (C B : Addr) : Sp := fun vs H Q E => ∃ v, vs = [v] ∧ ((NoStr K H v ∧ ∀ d H', Same H H' → H' d = some (.xd [("value", v)]) → E (.ref B) (some d) H') ∨ ∃ l, v = .str (S l) ∧ l.length ≤ 60 ∧
  ((∃ n u, IsRat l n u ∧ ∀ w H', Same H H' → RatAt C H' w n u → Q w H') ∨ ((∀ n u, ¬ IsRat l n u) ∧ ∀ d H', Same H H' → H' d = some (.xd [("value", v)]) → E (.ref B) (some d) H')))
theorem mk_at {K : PySem.W.Frag} {C x dx : Addr} {H : Hp} {n u : Int} {P : VK} (h0 : u ≠ 0) (h1 : u.natAbs < 2 ^ 200) (hx : H x = none) (hdx : H dx = none) (ne : dx ≠ x) (q : ∀ H', Same H H' → RatAt C H' (.ref x) (rNum n u) (rUnd n u) → P .non H') :
    spInit K C [.ref x, .int n, .int u] (upd (upd H dx (.own x)) x (.ins C dx [])) P E0 := by
  refine ⟨x, dx, n, u, rfl, h0, h1, upd_same, q _ (fun b o e => ?_) ⟨x, dx, rfl, upd_same⟩⟩
  rw [upd_ne (ne_of_none e hx), upd_ne (ne_of_none e hx), upd_ne (ne_of_none e hdx)]
  exact e
/-- what the raising asks -/
theorem raise_told {H1 : Hp} {C : Addr} {K : PySem.W.Frag} {w : V} {Q : XK} (T : EC K C) (q : ∀ d H', Same H1 H' → H' d = some (.xd [("value", w)]) → Q (.ref C) (some d) H') : ([w] : List V).length ≤ 1000 ∧ ∀ a, H1 a = none → spErrInit K (.ref a :: ([w] ++ [])) (upd H1 a (exo a C none))
    (fun v H2 => v = .non ∧ ∃ (d : Addr) (fs : List (Str × V)), H2 a = some (exo a C (some d)) ∧ H2 d = some (exd d fs) ∧ H1 d = none ∧ Q (.ref C) (some d) (upd (del H2 a) d (.xd fs))) (fun _ _ _ => False) := by
  refine ⟨(by show 1 ≤ 1000; decide), fun e he => ⟨e, C, w, rfl, T.ox, T.nv, upd_same, fun d hd hne => ⟨rfl, d, [("value", w)], upd_same, ?_, ?_, ?_⟩⟩⟩
  · rw [upd_ne hne]; exact upd_same
  · rw [upd_ne hne] at hd
    exact hd
  · refine q d _ (fun b o z => ?_) upd_same
    have nd : b ≠ d := by
      rw [upd_ne hne] at hd
      exact ne_of_none z hd
    have ne : b ≠ e := ne_of_none z he
    rw [upd_ne nd, del_ne ne, upd_ne ne, upd_ne nd, upd_ne ne]
    exact z
theorem str_S {a b : List Nat} (h : V.str (S a) = V.str (S b)) : a = b := S_inj (V.str.inj h)
section
variable {P : Program} {w : World} {K : PySem.W.Frag} {mg : Str → Option Value} {base : Heap} {a : Ad}
theorem ok_read_ratio {fd : FuncData} (F : Fun K "read_ratio" "read_ratio" s_read_ratio a.read_ratio fd) (T : Txt K mg a)
    {fd_Ratio_text : FuncData} (G_Ratio_text : FnOk P w K mg base CX0 2 a.Ratio_text fd_Ratio_text ["self"] (spText a.Ratio)) (b_Ratio_text : Binds K fd_Ratio_text ["self"] [])
    {fd_Ratio___init__ : FuncData} (G_Ratio___init__ : FnOk P w K mg base CX0 2 a.Ratio___init__ fd_Ratio___init__ ["self", "number", "under"] (spInit K a.Ratio)) (b_Ratio___init__ : Binds K fd_Ratio___init__ ["self", "number", "under"] [])
    {ds_Ratio___init__ : List Value} (d_Ratio___init__ : Vals [.int 1] ds_Ratio___init__ ∧ Binds K fd_Ratio___init__ ["self", "number", "under"] ds_Ratio___init__)
    {fd__worth : FuncData} (G__worth : FnOk P w K mg base CX0 1 a._worth fd__worth ["word"] spWorth) (b__worth : Binds K fd__worth ["word"] [])
    {fd__has_figures_alone : FuncData} (G__has_figures_alone : FnOk P w K mg base CX0 1 a._has_figures_alone fd__has_figures_alone ["word"] spFig) (b__has_figures_alone : Binds K fd__has_figures_alone ["word"] []) :
    FnOk P w K mg base CX0 4 a.read_ratio fd ["value"] (spRead K a.Ratio) := by
  refine F.ok sc_read_ratio (fun vs H Q E h => ?len) (fun cdv A outer s H vs Q E hr h => ⟨_,
      (pss_cons (ps_if (pt_not (pt_val (pe_callB call_isi (by rfl) T.n_isinstance (by decide +kernel) (pa_cons (pv 0) (pa_cons (pe_bltn (v := .ty "str") (u := .type "str") (by rfl) T.n_str (by decide +kernel) rfl) pa_nil))))) (pss_one (ps_ret pe_non)) pss_nil)
      (pss_cons (ps_asg (pe_m1 PySem.F.slot_str_partition PySem.F.type_str_partition mt_partition (pv 0) pe_str) (pg_tup rfl (pgs_cons (pg_name (i := 1) sc_read_ratio.nd rfl (Or.inl rfl)) (pgs_cons (pg_name (i := 2) sc_read_ratio.nd rfl (Or.inl rfl)) (pgs_cons (pg_name (i := 3) sc_read_ratio.nd rfl (Or.inl rfl)) pgs_nil)))))
      (Evl.pss_cut (ps_set (i := 4) sc_read_ratio.nd rfl (Or.inl rfl) (pe_lstS (pa_cons (pe_m1 PySem.F.slot_str_removeprefix PySem.F.type_str_removeprefix mt_removeprefix (pv 1) pe_str) (pa_cons (pe_ifExp (pt_truth (pv 2) (by intro _; rfl)) (pv 3) pe_str) pa_nil))))
      (pss_cons (ps_if (pt_not (pt_val (pe_callB (cr_all rfl) (by rfl) T.n_all (by decide +kernel) (pa_cons (pe_lc (own := [("word", 8)]) (g := gName 8) (tt := tYes) rfl sc_read_ratio.nd (pi_list (pv 4)) (blkOk_by (own := [("word", 8)]) (N := ["value", "above", "stroke", "below", "words", "number", "under", "ratio", "word"]) (sc := defScope s_read_ratio) (by decide +kernel)) (fun _ _ _ _ _ => (pg_name (i := 8) sc_read_ratio.nd rfl (Or.inl rfl))) (fun _ _ _ _ _ => pts_nil) (fun _ _ _ _ _ => (pe_call G__has_figures_alone (hr.mono (by omega)) (by rfl) T.g__has_figures_alone T.k__has_figures_alone b__has_figures_alone .nil pass0 (pa_cons (pv 8) pa_nil)))) pa_nil)))) (pss_one (ps_ret pe_non)) pss_nil)
      (pss_cons (ps_asg (pe_lc (own := [("word", 8)]) (g := gName 8) (tt := tYes) rfl sc_read_ratio.nd (pi_list (pv 4)) (blkOk_by (own := [("word", 8)]) (N := ["value", "above", "stroke", "below", "words", "number", "under", "ratio", "word"]) (sc := defScope s_read_ratio) (by decide +kernel)) (fun _ _ _ _ _ => (pg_name (i := 8) sc_read_ratio.nd rfl (Or.inl rfl))) (fun _ _ _ _ _ => pts_nil) (fun _ _ _ _ _ => (pe_call G__worth (hr.mono (by omega)) (by rfl) T.g__worth T.k__worth b__worth .nil pass0 (pa_cons (pv 8) pa_nil)))) (pg_unl rfl (pgs_cons (pg_name (i := 5) sc_read_ratio.nd rfl (Or.inl rfl)) (pgs_cons (pg_name (i := 6) sc_read_ratio.nd rfl (Or.inl rfl)) pgs_nil))))
      (pss_cons (ps_if (pt_cmpR op_eq (pv 6) pe_int (nomark _)) (pss_one (ps_ret pe_non)) pss_nil)
      (Evl.pss_cut (ps_set (i := 7) sc_read_ratio.nd rfl (Or.inl rfl) (pe_make T.m_Ratio G_Ratio___init__ (hr.mono (by omega)) (by rfl) T.g_Ratio b_Ratio___init__ .nil pass0 (pa_cons (pe_ifExp (pt_val (pe_m1 PySem.F.slot_str_startswith PySem.F.type_str_startswith mt_startswith (pv 1) pe_str)) (pe_un un_neg (pv 5)) (pv 5)) (pa_cons (pv 6) pa_nil))))
      (pss_one (ps_ret (pe_ifExp (pt_cmpR op_eq (pe_prop (pv 7) T.cl T.tR.choose_spec G_Ratio_text (hr.mono (by omega)) b_Ratio_text .nil pass0 (by rfl)) (pv 0) (nomark _)) (pv 7) pe_non)))))))))), ?body⟩)
  case len => obtain ⟨v, rfl, _⟩ := h; rfl
  case body =>
    obtain ⟨v, rfl, h⟩ := h
    rcases h with ⟨⟨t, ty, k⟩, q⟩ | ⟨l, rfl, hl, h⟩
    · refine ⟨_, rfl, v, _, _, _, false, rfl, .ty _, ty, k, false, rfl, iteT ?_⟩
      exact q
    have hS : ∀ n u, IsRat l n u → ∀ w H', Same H H' → RatAt a.Ratio H' w n u → Q w H' := fun n u i w H' S r => by
      rcases h with ⟨m, t, j, q⟩ | ⟨no, _⟩
      · obtain ⟨e1, e2⟩ := isRat_inj i j
        rw [e1, e2] at r
        exact q w H' S r
      · exact absurd i (no n u)
    have hN : (∀ n u, ¬ IsRat l n u) → ∀ H', Same H H' → Q .non H' := fun no => by
      rcases h with ⟨m, t, j, q⟩ | ⟨_, q⟩
      · exact absurd j (no m t)
      · exact q
    refine ⟨_, rfl, .str (S l), _, _, _, true, rfl, .ty _, .base (.str _), kit_ty (by decide +kernel), true, rfl, iteF ?_⟩
    obtain ⟨A1, st, B, e, hA, hB, hst⟩ : ∃ A st B, Txt.partition (S l) (S [47]) = (S A, S st, S B) ∧ A.length ≤ 60 ∧ B.length ≤ 60 ∧ ((st = [] ∧ A = l ∧ 47 ∉ l) ∨ (st = [47] ∧ l = A ++ 47 :: B ∧ 47 ∉ A)) := by
      rcases split_at 47 l with f | ⟨p, q, rfl, f⟩
      · exact ⟨_, _, _, part_none f, hl, by simp, .inl ⟨rfl, rfl, f⟩⟩
      · rw [List.length_append, List.length_cons] at hl
        exact ⟨_, _, _, part_some f, by omega, by omega, .inr ⟨rfl, rfl, f⟩⟩
    refine ⟨_, rfl, ⟨_, rfl⟩, S l, S [47], rfl, rfl, rfl, by rw [S_len, sizeLine_eq]; omega, fun p hp => ?_⟩
    rw [e]
    refine ⟨p, _, rfl, SqT.of upd_same, rfl, _, _, rfl, _, _, rfl, _, _, rfl, rfl, ?_⟩
    have S0 : Same H (upd H p (.tup [.str (S A1), .str (S st), .str (S B)])) := same_new hp
    generalize (upd H p (.tup [.str (S A1), .str (S st), .str (S B)])) = H0 at S0 ⊢
    refine ⟨fun σ' H' => ∃ W2 lw, σ' = [some (.str (S l)), some (.str (S A1)), some (.str (S st)), some (.str (S B)), some (.ref lw), none, none, none, none] ∧ Same H H' ∧ H' lw = some (.lst [.str (S (bare A1)), .str (S W2)]) ∧
      W2.length ≤ 60 ∧ ∀ n u, IsRat l n u → bare A1 = TL.numL n.natAbs ∧ decide (A1.head? = some 45) = decide (n < 0) ∧ W2 = TL.numL u.natAbs, ?first, ?rest⟩
    case first =>
      refine ⟨_, rfl, ⟨_, rfl⟩, S A1, S [45], rfl, rfl, by rw [S_len, sizeLine_eq]; omega, ?_⟩
      rw [bare_S]
      rcases hst with ⟨rfl, rfl, f⟩ | ⟨rfl, rfl, f⟩
      · refine ⟨_, rfl, false, ⟨(by show 0 ≤ sizeLine; decide), rfl⟩, iteF ⟨(by show 2 ≤ sizeLine; decide), fun lw nlw slw => ?_⟩⟩
        refine ⟨[49], lw, rfl, S0.trans (same_new nlw), upd_same, by decide, fun n u i => ?_⟩
        obtain ⟨rfl, rfl⟩ := rat_plain i f
        exact ⟨bare_int n, head_int n, (TL.numL_lt (n := 1) (by decide)).symm⟩
      · refine ⟨_, rfl, true, ⟨(by show 1 ≤ sizeLine; decide), rfl⟩, iteT ⟨_, rfl, (by show 2 ≤ sizeLine; decide), fun lw nlw slw => ?_⟩⟩
        refine ⟨B, lw, rfl, S0.trans (same_new nlw), upd_same, hB, fun n u i => ?_⟩
        obtain ⟨_, rfl, rfl⟩ := rat_stroke i f
        exact ⟨bare_int n, head_int n, rfl⟩
    case rest =>
      rintro σ' H1 ⟨W2, lw, rfl, S1, hlw, hW, fact⟩
      have hb : (bare A1).length ≤ 60 := Nat.le_trans (bare_len A1) hA
      have two : ∀ {x : V}, x ∈ [V.str (S (bare A1)), V.str (S W2)] → ∃ z, x = .str (S z) ∧ (z = bare A1 ∨ z = W2) := fun {x} hx => by
        rcases List.mem_cons.mp hx with e | hx
        · exact ⟨_, e, .inl rfl⟩
        · exact ⟨_, List.mem_singleton.mp hx, .inr rfl⟩
      refine ⟨_, rfl, lw, rfl, ⟨_, SqL.of hlw⟩, fun D hD => ?_⟩
      refine lc_rel (xs := [.str (S (bare A1)), .str (S W2)]) (fun x y _ => ∃ z, x = .str (S z) ∧ y = .bl (figs z)) (fun _ _ _ _ _ h => h) hD (SqL.of hlw) (by show 2 < sizeLine; decide) (fun _ => rfl) ?_ ?_
      · intro x hx H' Q' S' k
        obtain ⟨z, rfl, _⟩ := two hx
        exact ⟨_, rfl, _, rfl, k _ H' (Same.refl _) ⟨_, rfl, rfl⟩⟩
      · rintro ys H2 S2 dy pr
        obtain rfl : ys = [.bl (figs (bare A1)), .bl (figs W2)] := by
          cases pr with
          | cons e1 pr =>
            cases pr with
            | cons e2 pr =>
              cases pr
              obtain ⟨z1, h1, rfl⟩ := e1
              obtain ⟨z2, h2, rfl⟩ := e2
              rw [str_S h1, str_S h2]
        refine ⟨D, [figs (bare A1), figs W2], rfl, SqL.of dy, _, rfl, ?_⟩
        by_cases hf : figs (bare A1) = true ∧ figs W2 = true
        · rw [hf.1, hf.2]
          refine iteF ?_
          have hlw2 := S2 _ _ hlw
          refine ⟨_, rfl, lw, rfl, ⟨_, SqL.of hlw2⟩, fun D2 hD2 => ?_⟩
          refine lc_rel (xs := [.str (S (bare A1)), .str (S W2)]) (fun x y _ => ∃ z, x = .str (S z) ∧ y = .int ((digitsVal z : Nat) : Int)) (fun _ _ _ _ _ h => h) hD2 (SqL.of hlw2) (by show 2 < sizeLine; decide) (fun _ => rfl) ?_ ?_
          · intro x hx H' Q' S' k
            obtain ⟨z, rfl, hz⟩ := two hx
            refine ⟨_, rfl, _, rfl, ?_, ?_, k _ H' (Same.refl _) ⟨_, rfl, rfl⟩⟩
            · rcases hz with rfl | rfl
              · exact hf.1
              · exact hf.2
            · rcases hz with rfl | rfl <;> omega
          · rintro ys H3 S3 dy3 pr
            obtain rfl : ys = [.int ((digitsVal (bare A1) : Nat) : Int), .int ((digitsVal W2 : Nat) : Int)] := by
              cases pr with
              | cons e1 pr =>
                cases pr with
                | cons e2 pr =>
                  cases pr
                  obtain ⟨z1, h1, rfl⟩ := e1
                  obtain ⟨z2, h2, rfl⟩ := e2
                  rw [str_S h1, str_S h2]
            have v1 := digits_small hf.1 hb
            have v2 := digits_small hf.2 hW
            have same3 := S1.trans (S2.trans S3)
            refine ⟨D2, _, rfl, SqL.of dy3, rfl, _, _, rfl, _, _, rfl, rfl, ?_⟩
            refine ⟨_, rfl, rfl, _, rfl, ite2 (fun c => ?_) (fun c => ?_)⟩
            · have z := of_decide_eq_true c
              injection z with z
              refine hN (fun n u i => ?_) _ same3
              obtain ⟨_, _, e3⟩ := fact n u i
              rw [e3, TL.numL_val] at z
              have := i.1.pos
              omega
            have u0 : ((digitsVal W2 : Nat) : Int) ≠ 0 := fun z => c (decide_eq_true (by rw [z]))
            refine ⟨fun σ' H' => ∃ w, σ' = [some (.str (S l)), some (.str (S A1)), some (.str (S st)), some (.str (S B)), some (.ref lw), some (.int ((digitsVal (bare A1) : Nat) : Int)), some (.int ((digitsVal W2 : Nat) : Int)), some w, none] ∧ Same H H' ∧
              RatAt a.Ratio H' w (rNum (if A1.head? = some 45 then -((digitsVal (bare A1) : Nat) : Int) else ((digitsVal (bare A1) : Nat) : Int)) ((digitsVal W2 : Nat) : Int)) (rUnd (if A1.head? = some 45 then -((digitsVal (bare A1) : Nat) : Int) else ((digitsVal (bare A1) : Nat) : Int)) ((digitsVal W2 : Nat) : Int)), ?_, ?_⟩
            · refine ⟨_, rfl, ⟨_, rfl⟩, S A1, S [45], rfl, rfl, _, rfl, ?_⟩
              rw [starts_dash]
              have sm : (((digitsVal W2 : Nat) : Int)).natAbs < 2 ^ 200 := Nat.lt_of_lt_of_le (show (((digitsVal W2 : Nat) : Int)).natAbs < 10 ^ 60 by omega) (by decide +kernel)
              by_cases hd : A1.head? = some 45
              · rw [decide_eq_true hd, if_pos hd]
                refine iteT ⟨_, rfl, _, rfl, _, rfl, ?_⟩
                intro x dx c8 c9 c10
                exact mk_at u0 sm c8 c9 c10 fun H4 S4 hr => ⟨rfl, _, rfl, same3.trans S4, hr⟩
              · rw [decide_eq_false hd, if_neg hd]
                refine iteF ⟨_, rfl, _, rfl, ?_⟩
                intro x dx c8 c9 c10
                exact mk_at u0 sm c8 c9 c10 fun H4 S4 hr => ⟨rfl, _, rfl, same3.trans S4, hr⟩
            · rintro σ' H4 ⟨w, rfl, S4, hw⟩
              generalize hN0 : (if A1.head? = some 45 then -((digitsVal (bare A1) : Nat) : Int) else ((digitsVal (bare A1) : Nat) : Int)) = N0 at hw
              generalize hU0 : ((digitsVal W2 : Nat) : Int) = U0 at hw u0
              have bn : N0.natAbs < 10 ^ 64 := Nat.lt_of_lt_of_le (m := 10 ^ 60) (by rw [← hN0]; split <;> omega) (by decide +kernel)
              have bu : U0.natAbs < 10 ^ 64 := Nat.lt_of_lt_of_le (m := 10 ^ 60) (by rw [← hU0]; omega) (by decide +kernel)
              have red := red_of (n := N0) u0
              obtain ⟨x, dx, rfl, hx⟩ := hw
              refine ⟨_, rfl, x, dx, _, rfl, hx, _, _, _, rfl, ⟨x, dx, rfl, hx⟩, Nat.lt_of_le_of_lt (num_le u0) bn, red.pos, Nat.lt_of_le_of_lt (und_le u0) bu, fun H5 S5 => ⟨_, rfl, rfl, _, rfl, ite2 (fun c => ?_) (fun c => ?_)⟩⟩
              · have e := str_S (of_decide_eq_true c)
                exact ⟨_, rfl, hS _ _ ⟨red, e.symm⟩ _ _ (S4.trans S5) ⟨x, dx, rfl, S5 _ _ hx⟩⟩
              · refine hN (fun n u i => ?_) _ (S4.trans S5)
                obtain ⟨e1, e2, e3⟩ := fact n u i
                have eU : U0 = u := by
                  rw [← hU0, e3, TL.numL_val]
                  have := i.1.pos
                  omega
                have eN : N0 = n := by
                  rw [← hN0, e1, TL.numL_val]
                  by_cases hn : n < 0
                  · rw [if_pos (of_decide_eq_true (e2.trans (decide_eq_true hn)))]
                    omega
                  · rw [if_neg fun z => hn (of_decide_eq_true (e2.symm.trans (decide_eq_true z)))]
                    omega
                rw [eU, eN, i.1.same.1, i.1.same.2] at c
                exact c (decide_eq_true (by rw [i.2]))
        · have e : ([figs (bare A1), figs W2].all id) = false := by
            cases h1 : figs (bare A1)
            · rfl
            · cases h2 : figs W2
              · rfl
              · exact absurd ⟨h1, h2⟩ hf
          rw [e]
          refine iteT (hN (fun n u i => ?_) _ (S1.trans S2))
          obtain ⟨e1, _, e3⟩ := fact n u i
          exact hf ⟨by rw [e1]; exact numL_figs _, by rw [e3]; exact numL_figs _⟩
theorem ok_Ratio_of {fd : FuncData} (F : Fun K "of" "Ratio.of" s_Ratio_of a.Ratio_of fd) (T : Txt K mg a)
    {fd_init : FuncData} (G_init : FnOk P w K mg base CX0 1 a.init fd_init ["self", "value"] (spErrInit K)) (b_init : Binds K fd_init ["self", "value"] [])
    {fd_read_ratio : FuncData} (G_read_ratio : FnOk P w K mg base CX0 4 a.read_ratio fd_read_ratio ["value"] (spRead K a.Ratio)) (b_read_ratio : Binds K fd_read_ratio ["value"] []) :
    FnOk P w K mg base (L2.CX P w) 5 a.Ratio_of fd ["text"] (spOf_R K a.Ratio a.BadText) := by
  refine F.okX sc_Ratio_of (fun vs H Q E h => ?len) (fun cdv A outer s H vs Q E hr h => ⟨_,
      (pss_cons (ps_set (i := 1) sc_Ratio_of.nd rfl (Or.inl rfl) (pe_call G_read_ratio (hr.mono (by omega)) (by rfl) T.g_read_ratio T.k_read_ratio b_read_ratio .nil pass0 (pa_cons (pv 0) pa_nil)))
      (pss_cons (ps_if (pt_cmpR op_isN (pv 1) pe_non (nomark _)) (pss_one (ps_raise rfl (takes_of rfl rfl rfl rfl) (pmk_oex T.c_BadText.ox T.i_BadText T.tI G_init (hr.mono (by omega)) b_init .nil pass0 (by rfl) T.g_BadText (pa_cons (pv 0) pa_nil)))) pss_nil)
      (pss_one (ps_ret (pv 1))))), ?body⟩)
  case len => obtain ⟨v, rfl, _⟩ := h; rfl
  case body =>
    obtain ⟨v, rfl, h⟩ := h
    rcases h with ⟨ns, q⟩ | ⟨l, rfl, hl, ⟨n, u, i, q⟩ | ⟨no, q⟩⟩
    · refine ⟨_, rfl, v, rfl, .inl ⟨ns, ?_⟩⟩
      refine ⟨_, rfl, rfl, _, rfl, iteT ?_⟩
      exact ⟨_, rfl, raise_told T.c_BadText fun d H' S e => q d H' S e⟩
    · refine ⟨_, rfl, _, rfl, .inr ⟨l, rfl, hl, .inl ⟨n, u, i, fun w H' S hw => ?_⟩⟩⟩
      obtain ⟨x, dx, rfl, hx⟩ := hw
      refine ⟨_, rfl, rfl, _, rfl, iteF ⟨_, rfl, q _ _ S ⟨x, dx, rfl, hx⟩⟩⟩
    · refine ⟨_, rfl, _, rfl, .inr ⟨l, rfl, hl, .inr ⟨no, fun H' S => ?_⟩⟩⟩
      refine ⟨_, rfl, rfl, _, rfl, iteT ?_⟩
      exact ⟨_, rfl, raise_told T.c_BadText fun d H'' S2 e => q d H'' (S.trans S2) e⟩
end
end My

namespace My
open PySem PySem.Spec PyProof.Rows L2 G SX NumText
abbrev s_Point___init__ : Stmt := inClass (topS 21) 0
theorem sc_Point___init__ : FnScope ["self", "x", "y"] ["self", "x", "y"] (defScope s_Point___init__) := ⟨rfl, rfl, rfl, by decide +kernel, rfl, by decide +kernel, by decide +kernel⟩

abbrev s_Point_text : Stmt := inClass (topS 21) 1
theorem sc_Point_text : FnScope ["self"] ["self"] (defScope s_Point_text) := ⟨rfl, rfl, rfl, by decide +kernel, rfl, by decide +kernel, by decide +kernel⟩

abbrev s_read_point : Stmt := topS 20
theorem sc_read_point : FnScope ["value", "words", "read", "word"] ["value"] (defScope s_read_point) := ⟨rfl, rfl, rfl, by decide +kernel, rfl, by decide +kernel, by decide +kernel⟩

abbrev s_Point_of : Stmt := inClass (topS 21) 2
theorem sc_Point_of : FnScope ["text", "point"] ["text"] (defScope s_Point_of) := ⟨rfl, rfl, rfl, by decide +kernel, rfl, by decide +kernel, by decide +kernel⟩

def IsPt (l : List Nat) (n u m t : Int) : Prop := ∃ p q, IsRat p n u ∧ IsRat q m t ∧ l = p ++ 32 :: q
theorem isPt_spl {l : List Nat} {n u m t : Int} (h : IsPt l n u m t) : ∃ p q, TL.spl [32] 0 [] l = [p, q] ∧ IsRat p n u ∧ IsRat q m t := by
  obtain ⟨p, q, h1, h2, rfl⟩ := h
  have f1 : (32 : Nat) ∉ p := by rw [h1.2]; exact rat32 n u
  have f2 : (32 : Nat) ∉ q := by rw [h2.2]; exact rat32 m t
  exact ⟨p, q, by rw [spl_some f1, spl_none f2], h1, h2⟩
theorem isPt_of {l p q : List Nat} {n u m t : Int} (h : TL.spl [32] 0 [] l = [p, q]) (h1 : IsRat p n u) (h2 : IsRat q m t) : IsPt l n u m t := ⟨p, q, h1, h2, spl_two h⟩
theorem isPt_inj {l : List Nat} {n u m t n' u' m' t' : Int} (h : IsPt l n u m t) (h' : IsPt l n' u' m' t') : n = n' ∧ u = u' ∧ m = m' ∧ t = t' := by
  obtain ⟨p, q, e, h1, h2⟩ := isPt_spl h
  obtain ⟨p', q', e', h1', h2'⟩ := isPt_spl h'
  rw [e] at e'
  obtain ⟨e1, e2⟩ := List.cons.inj e'
  obtain ⟨e2, _⟩ := List.cons.inj e2
  subst e1 e2
  obtain ⟨a1, a2⟩ := isRat_inj h1 h1'
  obtain ⟨a3, a4⟩ := isRat_inj h2 h2'
  exact ⟨a1, a2, a3, a4⟩
abbrev ptFs (v w : V) : List (Str × V) := [("x", v), ("y", w)]
def PtAt (C CP : Addr) (H : Hp) (z : V) (n u m t : Int) : Prop := ∃ b dx v w, z = .ref b ∧ H b = some (.ins CP dx (ptFs v w)) ∧ RatAt C H v n u ∧ RatAt C H w m t
theorem PtAt.same {C CP : Addr} {H H' : Hp} {z : V} {n u m t : Int} (S : Same H H') (h : PtAt C CP H z n u m t) : PtAt C CP H' z n u m t := let ⟨b, dx, v, w, e, h1, h2, h3⟩ := h; ⟨b, dx, v, w, e, S _ _ h1, h2.same S, h3.same S⟩
def spPInit (K : PySem.W.Frag) (C CP : Addr) : Sp := fun vs H Q _ => ∃ p dx v w n u m t, vs = [.ref p, v, w] ∧ RatAt C H v n u ∧ RatAt C H w m t ∧ H p = some (.ins CP dx []) ∧
  ∀ H', (∀ b o, b ≠ p → H b = some o → H' b = some o) → PtAt C CP H' (.ref p) n u m t → Q .non H'
def spPText (C CP : Addr) : Sp := fun vs H Q _ => ∃ v n u m t, vs = [v] ∧ PtAt C CP H v n u m t ∧ (n.natAbs < 10 ^ 64 ∧ 0 < u ∧ u.natAbs < 10 ^ 64) ∧ (m.natAbs < 10 ^ 64 ∧ 0 < t ∧ t.natAbs < 10 ^ 64) ∧ ∀ H', Same H H' → Q (.str (S (ratL n u ++ 32 :: ratL m t))) H'
def spPOf (K : PySem.W.Frag) (C CP B : Addr) : Sp := fun vs H Q E => ∃ v, vs = [v] ∧ ((NoStr K H v ∧ ∀ d H', Same H H' → H' d = some (.xd [("value", v)]) → E (.ref B) (some d) H') ∨ ∃ l, v = .str (S l) ∧ l.length ≤ 60 ∧
  ((∃ n u m t, IsPt l n u m t ∧ ∀ w H', Same H H' → PtAt C CP H' w n u m t → Q w H') ∨ ((∀ n u m t, ¬ IsPt l n u m t) ∧ ∀ d H', Same H H' → H' d = some (.xd [("value", v)]) → E (.ref B) (some d) H')))
/-- as Point.of, None for the text of none -/
def spRPt (K : PySem.W.Frag) (C CP : Addr) : Sp := fun vs H Q _ => ∃ v, vs = [v] ∧ ((NoStr K H v ∧ ∀ H', Same H H' → Q .non H') ∨ ∃ l, v = .str (S l) ∧ l.length ≤ 60 ∧
  ((∃ n u m t, IsPt l n u m t ∧ ∀ w H', Same H H' → PtAt C CP H' w n u m t → Q w H') ∨ ((∀ n u m t, ¬ IsPt l n u m t) ∧ ∀ H', Same H H' → Q .non H')))
theorem no_ins0 {C CP dx : Addr} : ∀ d f g, HO.ins CP dx [] ≠ .ins C d [("number", f), ("under", g)] := fun d f g z => nomatch (HO.ins.inj z).2.2
theorem no_ins1 {C CP dx : Addr} {v : V} : ∀ d f g, HO.ins CP dx [("x", v)] ≠ .ins C d [("number", f), ("under", g)] := fun d f g z => by
  have := congrArg List.length (HO.ins.inj z).2.2
  simp at this
theorem RatAt.off {C : Addr} {H H' : Hp} {v : V} {n u : Int} {p : Addr} (k : ∀ b o, b ≠ p → H b = some o → H' b = some o) (hp : ∃ o, H p = some o ∧ ∀ d f g, o ≠ .ins C d [("number", f), ("under", g)]) (h : RatAt C H v n u) : RatAt C H' v n u := by
  obtain ⟨b, d, e, h⟩ := h
  refine ⟨b, d, e, k b _ (fun z => ?_) h⟩
  obtain ⟨o, h1, h2⟩ := hp
  rw [z, h1] at h
  exact h2 _ _ _ (Option.some.inj h)
section
variable {P : Program} {w : World} {K : PySem.W.Frag} {mg : Str → Option Value} {base : Heap} {a : Ad}
theorem ok_Point___init__ {fd : FuncData} (F : Fun K "__init__" "Point.__init__" s_Point___init__ a.Point___init__ fd) (T : Txt K mg a)
    {fd_as_ratio : FuncData} (G_as_ratio : FnOk P w K mg base CX0 4 a.as_ratio fd_as_ratio ["number"] (spAs K a.Ratio)) (b_as_ratio : Binds K fd_as_ratio ["number"] [])
    {fd_is_number : FuncData} (G_is_number : FnOk P w K mg base CX0 2 a.is_number fd_is_number ["value"] (spIsNum K a.Ratio)) (b_is_number : Binds K fd_is_number ["value"] []) :
    FnOk P w K mg base CX0 5 a.Point___init__ fd ["self", "x", "y"] (spPInit K a.Ratio a.Point) := by
  refine F.ok sc_Point___init__ (fun vs H Q E h => ?len) (fun cdv A outer s H vs Q E hr h => ⟨_,
      (pss_cons (ps_if (PW.pt (pw_or (pt_not (pt_val (pe_call G_is_number (hr.mono (by omega)) (by rfl) T.g_is_number T.k_is_number b_is_number .nil pass0 (pa_cons (pv 1) pa_nil)))) (pw_or1 (pt_not (pt_val (pe_call G_is_number (hr.mono (by omega)) (by rfl) T.g_is_number T.k_is_number b_is_number .nil pass0 (pa_cons (pv 2) pa_nil))))))) (pss_one ps_never) pss_nil)
      (pss_cons (ps_fld (pv 0) (pe_call G_as_ratio (hr.mono (by omega)) (by rfl) T.g_as_ratio T.k_as_ratio b_as_ratio .nil pass0 (pa_cons (pv 1) pa_nil)) rfl)
      (pss_one (ps_fld (pv 0) (pe_call G_as_ratio (hr.mono (by omega)) (by rfl) T.g_as_ratio T.k_as_ratio b_as_ratio .nil pass0 (pa_cons (pv 2) pa_nil)) rfl)))), ?body⟩)
  case len => obtain ⟨p, dx, v, w, n, u, m, t, rfl, _⟩ := h; rfl
  case body =>
    obtain ⟨p, dx, v, w, n, u, m, t, rfl, hv, hw, hp, q⟩ := h
    obtain ⟨ty, b1, b2, b3, t1, k1, k2, k3, e1⟩ := numTy T (.inr hv)
    obtain ⟨ty', c1, c2, c3, t1', k1', k2', k3', e2⟩ := numTy T (.inr hw)
    refine ⟨_, rfl, v, ty, b1, b2, b3, rfl, t1, k1, k2, k3, _, rfl, ?_⟩
    rw [e1]
    refine iteF ?_
    refine ⟨_, rfl, w, ty', c1, c2, c3, rfl, t1', k1', k2', k3', _, rfl, ?_⟩
    rw [e2]
    refine iteF ?_
    refine ⟨_, rfl, v, n, u, rfl, .inr hv, fun v1 H1 S1 hv1 => ?_⟩
    refine ⟨_, rfl, _, _, _, _, rfl, S1 _ _ hp, T.clP, T.nX, by decide, ?_⟩
    have k1 : ∀ b o, b ≠ p → H b = some o → (upd H1 p (.ins a.Point dx [("x", v1)])) b = some o := fun b o n e => by
      rw [upd_ne n]
      exact S1 _ _ e
    have hw1 := RatAt.off k1 ⟨_, hp, no_ins0⟩ hw
    refine ⟨_, rfl, w, m, t, rfl, .inr hw1, fun w1 H2 S2 hw2 => ?_⟩
    refine ⟨_, rfl, _, _, _, _, rfl, S2 _ _ upd_same, T.clP, T.nY, (by show 1 < 1000; decide), ?_⟩
    refine q _ (fun b o n e => ?_) ⟨p, dx, v1, w1, rfl, upd_same, ?_, ?_⟩
    · rw [upd_ne n]
      exact S2 _ _ (k1 b o n e)
    · have h1 : RatAt a.Ratio (upd H1 p (.ins a.Point dx [("x", v1)])) v1 n u := RatAt.off (fun b o n e => by rw [upd_ne n]; exact e) ⟨_, S1 _ _ hp, no_ins0⟩ hv1
      exact RatAt.off (p := p) (fun b o n e => by rw [upd_ne n]; exact e) ⟨_, S2 _ _ upd_same, no_ins1⟩ (h1.same S2)
    · exact RatAt.off (p := p) (fun b o n e => by rw [upd_ne n]; exact e) ⟨_, S2 _ _ upd_same, no_ins1⟩ hw2
theorem ok_Point_text {fd : FuncData} (F : Fun K "text" "Point.text" s_Point_text a.Point_text fd) (T : Txt K mg a)
    {fd_Ratio_text : FuncData} (G_Ratio_text : FnOk P w K mg base CX0 2 a.Ratio_text fd_Ratio_text ["self"] (spText a.Ratio)) (b_Ratio_text : Binds K fd_Ratio_text ["self"] []) :
    FnOk P w K mg base CX0 4 a.Point_text fd ["self"] (spPText a.Ratio a.Point) := by
  refine F.ok sc_Point_text (fun vs H Q E h => ?len) (fun cdv A outer s H vs Q E hr h => ⟨_,
      (pss_one (ps_ret (pe_joined (.cons (pe_fmt (pe_prop (pe_fld (pv 0) rfl) T.cl T.tR.choose_spec G_Ratio_text (hr.mono (by omega)) b_Ratio_text .nil pass0 (by rfl))) (.cons pe_str (.cons (pe_fmt (pe_prop (pe_fld (pv 0) rfl) T.cl T.tR.choose_spec G_Ratio_text (hr.mono (by omega)) b_Ratio_text .nil pass0 (by rfl))) .nil)))))), ?body⟩)
  case len => obtain ⟨v, n, u, m, t, rfl, _⟩ := h; rfl
  case body =>
    obtain ⟨v, n, u, m, t, rfl, ⟨x, dx, v1, w1, rfl, hx, ⟨y, dy, rfl, hy⟩, ⟨z, dz, rfl, hz⟩⟩, ⟨n1, u0, u1⟩, ⟨m1, t0, t1⟩, q⟩ := h
    have l1 : (ratL n u).length ≤ 131 := ratL_le (by decide) (by decide) n1 u1
    have l2 : (ratL m t).length ≤ 131 := ratL_le (by decide) (by decide) m1 t1
    refine ⟨_, rfl, _, _, _, _, _, rfl, hx, T.clP, T.nX, rfl, y, dy, _, rfl, hy, _, n, u, rfl, ⟨y, dy, rfl, hy⟩, n1, u0, u1, fun H1 S1 => .inl ⟨_, rfl, by rw [S_len, sizeLine_eq]; omega, _, rfl, ?_, _, rfl, ?_, _, rfl, _, _, _, _, _, rfl, S1 _ _ hx, T.clP, T.nY, rfl, z, dz, _, rfl, S1 _ _ hz, _, m, t, rfl, ⟨z, dz, rfl, S1 _ _ hz⟩, m1, t0, t1, fun H2 S2 => .inl ⟨_, rfl, by rw [S_len, sizeLine_eq]; omega, _, rfl, ?_, ?_⟩⟩⟩
    · rw [emp_cat, S_len, sizeLine_eq]
      omega
    · rw [emp_cat, blank_S, S_cat, S_len, sizeLine_eq, List.length_append, List.length_singleton]
      omega
    · rw [emp_cat, blank_S, S_cat, S_cat, S_len, sizeLine_eq, List.length_append, List.length_append, List.length_singleton]
      omega
    · rw [emp_cat, blank_S, S_cat, S_cat, List.append_assoc]
      exact q _ (S1.trans S2)
theorem ok_read_point {fd : FuncData} (F : Fun K "read_point" "read_point" s_read_point a.read_point fd) (T : Txt K mg a)
    {fd_Point___init__ : FuncData} (G_Point___init__ : FnOk P w K mg base CX0 5 a.Point___init__ fd_Point___init__ ["self", "x", "y"] (spPInit K a.Ratio a.Point)) (b_Point___init__ : Binds K fd_Point___init__ ["self", "x", "y"] [])
    {fd_read_ratio : FuncData} (G_read_ratio : FnOk P w K mg base CX0 4 a.read_ratio fd_read_ratio ["value"] (spRead K a.Ratio)) (b_read_ratio : Binds K fd_read_ratio ["value"] []) :
    FnOk P w K mg base CX0 7 a.read_point fd ["value"] (spRPt K a.Ratio a.Point) := by
  refine F.ok sc_read_point (fun vs H Q E h => ?len) (fun cdv A outer s H vs Q E hr h => ⟨_,
      (Evl.pss_cut (ps_set (i := 1) sc_read_point.nd rfl (Or.inl rfl) (pe_ifExp (pt_val (pe_callB call_isi (by rfl) T.n_isinstance (by decide +kernel) (pa_cons (pv 0) (pa_cons (pe_bltn (v := .ty "str") (u := .type "str") (by rfl) T.n_str (by decide +kernel) rfl) pa_nil)))) (pe_m1 PySem.F.slot_str_split PySem.F.type_str_split mt_split (pv 0) pe_str) (pe_lstS pa_nil)))
      (pss_cons (ps_setLc (i := 2) (own := [("word", 3)]) (g := gName 3) (tt := tYes) rfl sc_read_point.nd rfl rfl (sw_true rfl rfl rfl (by decide +kernel)) (pi_list (pv 1)) (blkOk_by (own := [("word", 3)]) (N := ["value", "words", "read", "word"]) (sc := defScope s_read_point) (by decide +kernel)) (fun _ _ _ _ _ => (pg_name (i := 3) sc_read_point.nd rfl (Or.inl rfl))) (fun _ _ _ _ _ => pts_nil) (fun _ _ _ _ _ => (pe_call G_read_ratio (hr.mono (by omega)) (by rfl) T.g_read_ratio T.k_read_ratio b_read_ratio .nil pass0 (pa_cons (pv 3) pa_nil))))
      (pss_cons (ps_if (PW.pt (pw_or (pt_cmpR op_ne (pe_callB call_len_seq (by rfl) T.n_len (by decide +kernel) (pa_cons (pv 2) pa_nil)) pe_int (nomark _)) (pw_or (pt_cmpR op_isN (pe_ix ix_list (pv 2) pe_int (fun _ _ => rfl)) pe_non (nomark _)) (pw_or1 (pt_cmpR op_isN (pe_ix ix_list (pv 2) pe_int (fun _ _ => rfl)) pe_non (nomark _)))))) (pss_one (ps_ret pe_non)) pss_nil)
      (pss_one (ps_ret (pe_make T.m_Point G_Point___init__ (hr.mono (by omega)) (by rfl) T.g_Point b_Point___init__ .nil pass0 (pa_cons (pe_ix ix_list (pv 2) pe_int (fun _ _ => rfl)) (pa_cons (pe_ix ix_list (pv 2) pe_int (fun _ _ => rfl)) pa_nil)))))))), ?body⟩)
  case len => obtain ⟨v, rfl, _⟩ := h; rfl
  case body =>
    obtain ⟨v, rfl, h⟩ := h
    refine ⟨fun σ' H' => ∃ (ws : List (List Nat)) (lw : Addr), σ' = [some v, some (.ref lw), none, none] ∧ Same H H' ∧ H' lw = some (.lst (ws.map fun w => .str (S w))) ∧ ws.length ≤ 61 ∧ (∀ w ∈ ws, w.length ≤ 60) ∧
      (∀ p q n u m t, ws = [p, q] → IsRat p n u → IsRat q m t → ∀ z H', Same H H' → PtAt a.Ratio a.Point H' z n u m t → Q z H') ∧
      ((∀ p q n u m t, ws = [p, q] → IsRat p n u → ¬ IsRat q m t) → ∀ H', Same H H' → Q .non H'), ?first, ?rest⟩
    case first =>
      rcases h with ⟨⟨t, ty, k⟩, q⟩ | ⟨l, rfl, hl, h⟩
      · refine ⟨_, rfl, v, _, _, _, false, rfl, .ty _, ty, k, false, rfl, iteF ?_⟩
        refine ⟨(by show 0 ≤ sizeLine; decide), fun lw nlw slw => ?_⟩
        refine ⟨([] : List (List Nat)), lw, rfl, same_new nlw, upd_same, by decide, ?_, ?_, fun _ => q⟩
        · intro w hw
          cases hw
        · intro p q n u m t e
          cases e
      · refine ⟨_, rfl, .str (S l), _, _, _, true, rfl, .ty _, .base (.str _), kit_ty (by decide +kernel), true, rfl, iteT ?_⟩
        refine ⟨_, rfl, ⟨_, rfl⟩, S l, S [32], rfl, rfl, rfl, by rw [S_len, sizeLine_eq]; omega, fun lw nlw => ?_⟩
        obtain ⟨n1, n2⟩ := spl_len 32 l.length l (Nat.le_refl _)
        refine ⟨TL.spl [32] 0 [] l, lw, rfl, same_new nlw, upd_same.trans ?_, by omega, fun w hw => Nat.le_trans (n2 w hw) hl, fun p q n u m t e i j => ?_, fun no => ?_⟩
        · rw [split_S (by simp) (by decide), List.map_map]
          rfl
        · have ip := isPt_of e i j
          rcases h with ⟨n', u', m', t', ip', q'⟩ | ⟨no, _⟩
          · obtain ⟨e1, e2, e3, e4⟩ := isPt_inj ip ip'
            rw [e1, e2, e3, e4]
            exact q'
          · exact absurd ip (no n u m t)
        · rcases h with ⟨n', u', m', t', ip', q'⟩ | ⟨_, q'⟩
          · obtain ⟨p, q, e, i, j⟩ := isPt_spl ip'
            exact absurd j (no p q _ _ _ _ e i)
          · exact q'
    case rest =>
      rintro σ' H1 ⟨ws, lw, rfl, S1, hlw, hw1, hw2, yes, no⟩
      refine ⟨_, rfl, lw, rfl, ⟨_, SqL.of hlw⟩, fun D hD => ?_⟩
      refine lc_rel (xs := ws.map fun w => .str (S w)) (fun x y H => ∃ z, x = .str (S z) ∧ ((∃ n u, IsRat z n u ∧ RatAt a.Ratio H y n u) ∨ ((∀ n u, ¬ IsRat z n u) ∧ y = .non))) ?st hD (SqL.of hlw) (by rw [List.length_map, sizeLine_eq]; omega) (fun _ => rfl) ?_ ?_
      case st =>
        rintro x y H2 H3 k ⟨z, e, h | h⟩
        · obtain ⟨n, u, i, b, d, e2, hb⟩ := h
          exact ⟨z, e, .inl ⟨n, u, i, b, d, e2, k _ _ hb fun _ z => nomatch z⟩⟩
        · exact ⟨z, e, .inr h⟩
      · intro x hx H' Q' S' k
        obtain ⟨z, hz, rfl⟩ := List.mem_map.mp hx
        refine ⟨_, rfl, _, rfl, .inr ⟨z, rfl, hw2 z hz, ?_⟩⟩
        by_cases c : ∃ n u, IsRat z n u
        · obtain ⟨n, u, i⟩ := c
          exact .inl ⟨n, u, i, fun w H' S hw => k w H' S ⟨z, rfl, .inl ⟨n, u, i, hw⟩⟩⟩
        · have c' : ∀ n u, ¬ IsRat z n u := fun n u i => c ⟨n, u, i⟩
          exact .inr ⟨c', fun H' S => k _ H' S ⟨z, rfl, .inr ⟨c', rfl⟩⟩⟩
      · rintro ys H2 S2 dy pr
        have same2 := S1.trans S2
        have ly := pr.length
        rw [List.length_map] at ly
        refine ⟨_, rfl, D, ys, rfl, .inl (SqL.of dy), rfl, _, rfl, ?_⟩
        by_cases c2 : ws.length = 2
        · obtain ⟨p, q, rfl⟩ : ∃ p q, ws = [p, q] := by
            match ws, c2 with
            | [p, q], _ => exact ⟨p, q, rfl⟩
          obtain ⟨y1, y2, rfl, ⟨z1, e1, h1⟩, ⟨z2, e2, h2⟩⟩ : ∃ y1 y2, ys = [y1, y2] ∧ (∃ z, V.str (S p) = .str (S z) ∧ ((∃ n u, IsRat z n u ∧ RatAt a.Ratio H2 y1 n u) ∨ ((∀ n u, ¬ IsRat z n u) ∧ y1 = .non))) ∧ (∃ z, V.str (S q) = .str (S z) ∧ ((∃ n u, IsRat z n u ∧ RatAt a.Ratio H2 y2 n u) ∨ ((∀ n u, ¬ IsRat z n u) ∧ y2 = .non))) := by
            cases pr with
            | cons f1 pr =>
              cases pr with
              | cons f2 pr =>
                cases pr
                exact ⟨_, _, rfl, f1, f2⟩
          obtain rfl := str_S e1
          obtain rfl := str_S e2
          refine iteF ?_
          rcases h1 with ⟨n, u, i1, b1, d1, rfl, hb1⟩ | ⟨nn, rfl⟩
          · refine ⟨_, rfl, _, _, _, _, rfl, rfl, SqL.of dy, rfl, rfl, _, rfl, iteF ?_⟩
            rcases h2 with ⟨m, t, i2, b2, d2, rfl, hb2⟩ | ⟨nn, rfl⟩
            · refine ⟨_, rfl, _, _, _, _, rfl, rfl, SqL.of dy, rfl, rfl, _, rfl, iteF ?_⟩
              refine ⟨_, rfl, _, _, _, _, rfl, rfl, SqL.of dy, rfl, _, rfl, _, _, _, _, rfl, rfl, SqL.of dy, rfl, ?_⟩
              intro x dx c8 c9 c10
              have keep : ∀ b o, H2 b = some o → upd (upd H2 dx (.own x)) x (.ins a.Point dx []) b = some o := fun b o e => by
                rw [upd_ne (ne_of_none e c8), upd_ne (ne_of_none e c9)]
                exact e
              refine ⟨x, dx, .ref b1, .ref b2, n, u, m, t, rfl, ⟨b1, d1, rfl, keep _ _ hb1⟩, ⟨b2, d2, rfl, keep _ _ hb2⟩, upd_same, fun H3 k3 pt => ⟨rfl, ?_⟩⟩
              exact yes p q n u m t rfl i1 i2 _ H3 (fun b o e => k3 b o (ne_of_none (same2 _ _ e) c8) (keep _ _ (same2 _ _ e))) pt
            · refine ⟨_, rfl, _, _, _, _, rfl, rfl, SqL.of dy, rfl, rfl, _, rfl, iteT ?_⟩
              exact no (fun p' q' n' u' m' t' e1 i j => by cases e1; exact nn _ _ j) _ same2
          · refine ⟨_, rfl, _, _, _, _, rfl, rfl, SqL.of dy, rfl, rfl, _, rfl, iteT ?_⟩
            exact no (fun p' q' n' u' m' t' e1 i j => by cases e1; exact nn _ _ i) _ same2
        · have ne : ¬ (V.int ((ys.length : Nat) : Int) = V.int 2) := fun z => by
            injection z with z
            omega
          refine ite2 (fun _ => ?_) (fun c => absurd (by rw [decide_eq_false ne]; rfl) c)
          exact no (fun p' q' n' u' m' t' e1 i j => c2 (by rw [e1]; rfl)) _ same2
theorem ok_Point_of {fd : FuncData} (F : Fun K "of" "Point.of" s_Point_of a.Point_of fd) (T : Txt K mg a)
    {fd_init : FuncData} (G_init : FnOk P w K mg base CX0 1 a.init fd_init ["self", "value"] (spErrInit K)) (b_init : Binds K fd_init ["self", "value"] [])
    {fd_read_point : FuncData} (G_read_point : FnOk P w K mg base CX0 7 a.read_point fd_read_point ["value"] (spRPt K a.Ratio a.Point)) (b_read_point : Binds K fd_read_point ["value"] []) :
    FnOk P w K mg base (L2.CX P w) 8 a.Point_of fd ["text"] (spPOf K a.Ratio a.Point a.BadText) := by
  refine F.okX sc_Point_of (fun vs H Q E h => ?len) (fun cdv A outer s H vs Q E hr h => ⟨_,
      (pss_cons (ps_set (i := 1) sc_Point_of.nd rfl (Or.inl rfl) (pe_call G_read_point (hr.mono (by omega)) (by rfl) T.g_read_point T.k_read_point b_read_point .nil pass0 (pa_cons (pv 0) pa_nil)))
      (pss_cons (ps_if (pt_cmpR op_isN (pv 1) pe_non (nomark _)) (pss_one (ps_raise rfl (takes_of rfl rfl rfl rfl) (pmk_oex T.c_BadText.ox T.i_BadText T.tI G_init (hr.mono (by omega)) b_init .nil pass0 (by rfl) T.g_BadText (pa_cons (pv 0) pa_nil)))) pss_nil)
      (pss_one (ps_ret (pv 1))))), ?body⟩)
  case len => obtain ⟨v, rfl, _⟩ := h; rfl
  case body =>
    obtain ⟨v, rfl, h⟩ := h
    rcases h with ⟨ns, q⟩ | ⟨l, rfl, hl, ⟨n, u, m, t, ip, q⟩ | ⟨no, q⟩⟩
    · refine ⟨_, rfl, v, rfl, .inl ⟨ns, fun H1 S1 => ⟨_, rfl, rfl, _, rfl, iteT ?_⟩⟩⟩
      exact ⟨_, rfl, raise_told T.c_BadText fun d H'' S3 e => q d H'' (S1.trans S3) e⟩
    · refine ⟨_, rfl, _, rfl, .inr ⟨l, rfl, hl, .inl ⟨n, u, m, t, ip, fun w H1 S1 hw => ?_⟩⟩⟩
      obtain ⟨b, dx, x, y, rfl, hb⟩ := id hw
      exact ⟨_, rfl, rfl, _, rfl, iteF ⟨_, rfl, q _ H1 S1 hw⟩⟩
    · refine ⟨_, rfl, _, rfl, .inr ⟨l, rfl, hl, .inr ⟨no, fun H1 S1 => ⟨_, rfl, rfl, _, rfl, iteT ?_⟩⟩⟩⟩
      exact ⟨_, rfl, raise_told T.c_BadText fun d H'' S3 e => q d H'' (S1.trans S3) e⟩
end
end My

namespace My
open PySem PySem.Spec PyProof.Rows L2 G SX NumText
abbrev s__law_ratio_text : Stmt := topS 31
theorem sc__law_ratio_text : FnScope ["_law_pair_here"] ["_law_pair_here"] (defScope s__law_ratio_text) := ⟨rfl, rfl, rfl, by decide +kernel, rfl, by decide +kernel, by decide +kernel⟩

abbrev s__law_figures : Stmt := topS 33
theorem sc__law_figures : FnScope ["_law_word", "_law_sign"] ["_law_word"] (defScope s__law_figures) := ⟨rfl, rfl, rfl, by decide +kernel, rfl, by decide +kernel, by decide +kernel⟩

abbrev s__law_read : Stmt := topS 34
theorem sc__law_read : FnScope ["_law_text", "_law_body", "_law_words", "_law_numbers", "_law_pair_here", "_law_word", "_law_number"] ["_law_text"] (defScope s__law_read) := ⟨rfl, rfl, rfl, by decide +kernel, rfl, by decide +kernel, by decide +kernel⟩

def spLText : Sp := fun vs H Q _ => ∃ v n u, vs = [v] ∧ PairAt H v n u ∧ n.natAbs < 10 ^ 64 ∧ u.natAbs < 10 ^ 64 ∧ Q (.str (S (ratL n u))) H
def spLFig : Sp := fun vs H Q _ => ∃ w, vs = [.str (S w)] ∧ w.length ≤ 600 ∧ ∀ H', Same H H' → Q (.int (figN w)) H'
def spLRead : Sp := fun vs H Q _ => ∃ l, vs = [.str (S l)] ∧ l.length ≤ 60 ∧ ((∃ n u, IsRat l n u ∧ ∀ v H', Same H H' → PairAt H' v n u → Q v H') ∨ ((∀ n u, ¬ IsRat l n u) ∧ ∀ H', Same H H' → Q .non H'))
theorem bare_app {p r : List Nat} (h : p ≠ []) : bare (p ++ r) = bare p ++ r := by
  cases p with
  | nil => exact absurd rfl h
  | cons c p =>
    unfold bare
    show (if some c = some 45 then p ++ r else c :: (p ++ r)) = (if some c = some 45 then p else c :: p) ++ r
    split <;> rfl
theorem intL_ne (n : Int) : intL n ≠ [] := by
  unfold intL
  split
  · simp
  · exact TL.numL_ne _
theorem head_app {p r : List Nat} (h : p ≠ []) : (p ++ r).head? = p.head? := by
  cases p with
  | nil => exact absurd rfl h
  | cons c p => rfl
theorem numL47 (n : Nat) : (47 : Nat) ∉ TL.numL n := TL.numL_free (.inl (by decide))
/-- what the law's reading sees of a fraction's text -/
theorem read_parts {l : List Nat} {n u : Int} (h : IsRat l n u) : decide (l.head? = some 45) = decide (n < 0) ∧ ((u = 1 ∧ TL.spl [47] 0 [] (bare l) = [TL.numL n.natAbs]) ∨ (u ≠ 1 ∧ TL.spl [47] 0 [] (bare l) = [TL.numL n.natAbs, TL.numL u.natAbs])) := by
  obtain ⟨r, rfl⟩ := h
  by_cases e : u = 1
  · rw [e, ratL_one]
    exact ⟨head_int n, .inl ⟨rfl, by rw [bare_int, spl_none (numL47 _)]⟩⟩
  · rw [ratL_two e, head_app (intL_ne n), bare_app (intL_ne n), bare_int, spl_some (numL47 _), intL_pos r.pos, spl_none (numL47 _)]
    exact ⟨head_int n, .inr ⟨e, rfl⟩⟩
theorem take1 (l : List Nat) : decide (V.str (S (l.take 1)) = V.str (S [45])) = decide (l.head? = some 45) := by
  cases l with
  | nil => rfl
  | cons c r =>
    show decide (V.str (S [c]) = V.str (S [45])) = decide (some c = some 45)
    by_cases h : c = 45
    · rw [h, decide_eq_true rfl, decide_eq_true rfl]
    · rw [decide_eq_false (fun z => h (List.cons.inj (str_S z)).1), decide_eq_false (fun z => h (Option.some.inj z))]
theorem bare_if (l : List Nat) : (if l.head? = some 45 then l.drop 1 else l) = bare l := by
  unfold bare
  split
  · rw [List.drop_one]
  · rfl
section
variable {P : Program} {w : World} {K : PySem.W.Frag} {mg : Str → Option Value} {base : Heap} {a : Ad}
theorem ok__law_ratio_text {fd : FuncData} (F : Fun K "_law_ratio_text" "_law_ratio_text" s__law_ratio_text a._law_ratio_text fd) (T : Txt K mg a) :
    Fn P w K mg base CX0 1 a._law_ratio_text fd ["_law_pair_here"] spLText := by
  refine ok F sc__law_ratio_text (fun vs H Q E h => ?len) (fun cdv A outer s H vs Q E hq hr h => ⟨_,
      (pss_one (ps_ret (pe_ifExp (pt_cmpR op_eq (pe_ix ix_tup (pv 0) pe_int (fun _ _ => rfl)) pe_int (nomark _)) (pe_callTy call_str_int (by rfl) T.n_str (by decide +kernel) (pa_cons (pe_ix ix_tup (pv 0) pe_int (fun _ _ => rfl)) pa_nil)) (pe_op op_add_str (pe_op op_add_str (pe_callTy call_str_int (by rfl) T.n_str (by decide +kernel) (pa_cons (pe_ix ix_tup (pv 0) pe_int (fun _ _ => rfl)) pa_nil)) pe_str) (pe_callTy call_str_int (by rfl) T.n_str (by decide +kernel) (pa_cons (pe_ix ix_tup (pv 0) pe_int (fun _ _ => rfl)) pa_nil)))))), ?body⟩)
  case len => obtain ⟨v, n, u, rfl, _⟩ := h; rfl
  case body =>
    obtain ⟨v, n, u, rfl, ⟨p, rfl, hp⟩, n1, u1, q⟩ := h
    have l1 := intL_short n1
    have l2 := intL_short u1
    refine ⟨_, rfl, _, _, _, _, rfl, rfl, SqT.of hp, rfl, rfl, _, rfl, ite2 (fun c => ?_) (fun c => ?_)⟩
    · have z := of_decide_eq_true c
      injection z with z
      rw [z, ratL_one] at q
      refine ⟨_, rfl, _, _, _, _, rfl, rfl, SqT.of hp, rfl, n, rfl, log64 n1, ?_⟩
      rw [int_L]
      exact q
    · rw [ratL_two fun z => c (decide_eq_true (by rw [z]))] at q
      refine ⟨_, rfl, _, _, _, _, rfl, rfl, SqT.of hp, rfl, n, rfl, log64 n1, ?_⟩
      rw [int_L]
      refine ⟨_, _, rfl, rfl, by rw [S_len, stroke_S, S_len, sizeLine_eq, List.length_singleton]; omega, ?_⟩
      refine ⟨_, rfl, _, _, _, _, rfl, rfl, SqT.of hp, rfl, u, rfl, log64 u1, ?_⟩
      rw [int_L, stroke_S, S_cat]
      refine ⟨_, _, rfl, rfl, by rw [S_len, S_len, sizeLine_eq, List.length_append, List.length_singleton]; omega, ?_⟩
      rw [S_cat, List.append_assoc]
      exact q
theorem ok__law_figures {fd : FuncData} (F : Fun K "_law_figures" "_law_figures" s__law_figures a._law_figures fd) (T : Txt K mg a) :
    Fn P w K mg base CX0 1 a._law_figures fd ["_law_word"] spLFig := by
  refine ok F sc__law_figures (fun vs H Q E h => ?len) (fun cdv A outer s H vs Q E hq hr h => ⟨_,
      (pss_cons (ps_if (PW.pt (pw_or (pt_cmpR op_eq (pv 0) pe_str (nomark _)) (pw_or (pt_not (pt_val (pe_callB (cr_all rfl) (by rfl) T.n_all (by decide +kernel) (pa_cons (pe_lc (own := [("_law_sign", 1)]) (g := gName 1) (tt := tYes) rfl sc__law_figures.nd (pi_str (pv 0)) (blkOk_by (own := [("_law_sign", 1)]) (N := ["_law_word", "_law_sign"]) (sc := defScope s__law_figures) (by decide +kernel)) (fun _ _ _ _ _ => (pg_name (i := 1) sc__law_figures.nd rfl (Or.inl rfl))) (fun _ _ _ _ _ => pts_nil) (fun _ _ _ _ _ => (pe_cmpR op_in_sign (pv 1) pe_str (by rfl)))) pa_nil)))) (pw_or1 (PW.pt (pw_and (pt_cmpR op_eq (pe_ix ix_str (pv 0) pe_int (fun _ _ => rfl)) pe_str (nomark _)) (pw_and1 (pt_cmpR op_ne (pv 0) pe_str (nomark _))))))))) (pss_one (ps_ret (pe_un un_neg pe_int))) pss_nil)
      (pss_one (ps_ret (pe_callTy call_int_str (by rfl) T.n_int (by decide +kernel) (pa_cons (pv 0) pa_nil))))), ?body⟩)
  case len => obtain ⟨l, rfl, _⟩ := h; rfl
  case body =>
    obtain ⟨l, rfl, hl, q⟩ := h
    have minus : figN l = -1 → Q (.int (-1)) H → Q (.int (figN l)) H := fun e z => by rw [e]; exact z
    have qm : ∀ H', Same H H' → figN l = -1 → Q (.int (-1)) H' := fun H' S e => by
      have z := q H' S
      rw [e] at z
      exact z
    refine ⟨_, rfl, rfl, _, rfl, ite2 (fun c => ?_) (fun c => ?_)⟩
    · have e : l = [] := str_S (b := []) (of_decide_eq_true c)
      refine iteT ⟨_, rfl, qm _ (Same.refl _) ?_⟩
      rw [e]
      rfl
    have ne : l ≠ [] := fun z => c (decide_eq_true (by rw [z]; rfl))
    refine ⟨_, rfl, S l, rfl, fun D hD => ?_⟩
    refine lc_it walk_str (fun i H' => Same H H' ∧ H' D = some (.lst ((l.take i).map fun c => .bl (dig c)))) ⟨same_new hD, upd_same⟩ (fun _ _ _ _ => trivial) ?_ ?_
    · rintro i x H' H'' hi ⟨S1, dy⟩ ⟨rfl, c, hc, rfl⟩
      have hc' : l[i]? = some c := by simpa using hc
      have hi' : i < l.length := by simpa using hi
      refine ⟨rfl, ?_⟩
      refine ⟨_, rfl, c, _, rfl, rfl, _, dy, ?_, fun b o e => ?_, ?_⟩
      · rw [List.length_map, List.length_take, sizeLine_eq]
        omega
      · rw [upd_ne (ne_of_none e hD)]
        exact S1 _ _ e
      · rw [upd_same, List.take_succ, hc', List.map_append, in_fig]
        rfl
    · rintro H' ⟨S1, dy⟩
      have en : (S l).cps.size = l.length := by simp
      rw [en, List.take_length] at dy
      refine ⟨D, l.map dig, rfl, SqL.of (dy.trans (by rw [List.map_map]; rfl)), _, rfl, ?_⟩
      have ea : (l.map dig).all id = l.all dig := by
        rw [List.all_map]
        rfl
      rw [ea]
      have ef : figs l = l.all dig := by
        unfold figs
        cases l
        · exact absurd rfl ne
        · rfl
      cases hall : l.all dig
      · refine iteT (iteT ⟨_, rfl, qm _ S1 ?_⟩)
        unfold figN
        rw [if_neg]
        rintro ⟨z, _⟩
        rw [ef, hall] at z
        cases z
      · refine iteF ?_
        obtain ⟨c0, r, rfl⟩ : ∃ c r, l = c :: r := by
          cases l
          · exact absurd rfl ne
          · exact ⟨_, _, rfl⟩
        refine ⟨_, rfl, S (c0 :: r), 0, c0, rfl, rfl, by rw [S_len, sizeLine_eq]; omega, by exact (atI_nat (xs := c0 :: r) (j := 0) rfl), rfl, _, rfl, ?_⟩
        have fin : ¬ ((c0 :: r).head? = some 48 ∧ (c0 :: r) ≠ [48]) → tRet (tCB (fun xs H Q => ∃ a n, xs = [V.str a] ∧ intText? a = some n ∧ a.length ≤ 640 ∧ Q (V.int n) H) (tCons (tVar 0) tNil)) { nx := fun x H' => Q V.non H', rt := Q } (L2.start ["_law_word", "_law_sign"] [V.str (S (c0 :: r))]) H' := fun z => by
          refine ⟨_, rfl, S (c0 :: r), _, rfl, int_figs (ef.trans hall) (by omega), by rw [S_len]; omega, ?_⟩
          have w := q H' S1
          unfold figN at w
          rw [if_pos ⟨ef.trans hall, z⟩] at w
          exact w
        refine ite2 (fun c2 => ?_) (fun c2 => ?_)
        · have e0 : c0 = 48 := (List.cons.inj (str_S (a := [c0]) (b := [48]) (of_decide_eq_true c2))).1
          subst e0
          refine ⟨_, rfl, rfl, _, rfl, ?_⟩
          by_cases hr : r = []
          · subst hr
            exact iteF (fin fun z => z.2 rfl)
          · have : ¬ (V.str (S (48 :: r)) = V.str (Str.ofString "0")) := fun z => hr (List.cons.inj (str_S (b := [48]) z)).2
            rw [decide_eq_false this]
            refine iteT ⟨_, rfl, qm _ S1 ?_⟩
            unfold figN
            rw [if_neg]
            rintro ⟨_, z⟩
            exact z ⟨rfl, fun w => hr (List.cons.inj w).2⟩
        · refine iteF (fin fun z => c2 (decide_eq_true ?_))
          have := Option.some.inj z.1
          rw [this]
          rfl
theorem ok__law_read {fd : FuncData} (F : Fun K "_law_read" "_law_read" s__law_read a._law_read fd) (T : Txt K mg a)
    {fd__law_ratio_text : FuncData} (G__law_ratio_text : Fn P w K mg base CX0 1 a._law_ratio_text fd__law_ratio_text ["_law_pair_here"] spLText) (b__law_ratio_text : Binds K fd__law_ratio_text ["_law_pair_here"] [])
    {fd__law_pair : FuncData} (G__law_pair : Fn P w K mg base CX0 2 a._law_pair fd__law_pair ["_law_above", "_law_under"] spPair) (b__law_pair : Binds K fd__law_pair ["_law_above", "_law_under"] [])
    {fd__law_figures : FuncData} (G__law_figures : Fn P w K mg base CX0 1 a._law_figures fd__law_figures ["_law_word"] spLFig) (b__law_figures : Binds K fd__law_figures ["_law_word"] []) :
    Fn P w K mg base CX0 3 a._law_read fd ["_law_text"] spLRead := by
  refine ok F sc__law_read (fun vs H Q E h => ?len) (fun cdv A outer s H vs Q E hq hr h => ⟨_,
      (Evl.pss_cut (ps_set (i := 1) sc__law_read.nd rfl (Or.inl rfl) (pe_ifExp (pt_cmpR op_eq (pe_slice C8.sl_txt (pv 0) po_none (po_some pe_int)) pe_str (nomark _)) (pe_slice C8.sl_txt (pv 0) (po_some pe_int) po_none) (pv 0)))
      (pss_cons (ps_set (i := 2) sc__law_read.nd rfl (Or.inl rfl) (pe_m1 PySem.F.slot_str_split PySem.F.type_str_split mt_split (pv 1) pe_str))
      (pss_cons (ps_setLc (i := 3) (own := [("_law_word", 5)]) (g := gName 5) (tt := tYes) rfl sc__law_read.nd rfl rfl (sw_true rfl rfl rfl (by decide +kernel)) (pi_list (pv 2)) (blkOk_by (own := [("_law_word", 5)]) (N := ["_law_text", "_law_body", "_law_words", "_law_numbers", "_law_pair_here", "_law_word", "_law_number"]) (sc := defScope s__law_read) (by decide +kernel)) (fun _ _ _ _ _ => (pg_name (i := 5) sc__law_read.nd rfl (Or.inl rfl))) (fun _ _ _ _ _ => pts_nil) (fun _ _ _ _ _ => (pe_fn G__law_figures hq (hr.mono (by omega)) (by rfl) T.g__law_figures T.k__law_figures b__law_figures .nil pass0 (pa_cons (pv 5) pa_nil))))
      (pss_cons (ps_if (PW.pt (pw_or (pt_cmpR op_gt (pe_callB call_len_seq (by rfl) T.n_len (by decide +kernel) (pa_cons (pv 2) pa_nil)) pe_int (nomark _)) (pw_or (pt_val (pe_callB (cr_any rfl) (by rfl) T.n_any (by decide +kernel) (pa_cons (pe_lc (own := [("_law_number", 6)]) (g := gName 6) (tt := tYes) rfl sc__law_read.nd (pi_list (pv 3)) (blkOk_by (own := [("_law_number", 6)]) (N := ["_law_text", "_law_body", "_law_words", "_law_numbers", "_law_pair_here", "_law_word", "_law_number"]) (sc := defScope s__law_read) (by decide +kernel)) (fun _ _ _ _ _ => (pg_name (i := 6) sc__law_read.nd rfl (Or.inl rfl))) (fun _ _ _ _ _ => pts_nil) (fun _ _ _ _ _ => (pe_cmpR op_lt (pv 6) pe_int (nomark _)))) pa_nil))) (pw_or1 (PW.pt (pw_and (pt_cmpR op_eq (pe_callB call_len_seq (by rfl) T.n_len (by decide +kernel) (pa_cons (pv 2) pa_nil)) pe_int (nomark _)) (pw_and1 (pt_cmpR op_eq (pe_ix ix_list (pv 3) pe_int (fun _ _ => rfl)) pe_int (nomark _))))))))) (pss_one (ps_ret pe_non)) pss_nil)
      (Evl.pss_cut (ps_set (i := 4) sc__law_read.nd rfl (Or.inl rfl) (pe_fn G__law_pair hq (hr.mono (by omega)) (by rfl) T.g__law_pair T.k__law_pair b__law_pair .nil pass0 (pa_cons (pe_ifExp (pt_cmpR op_eq (pe_slice C8.sl_txt (pv 0) po_none (po_some pe_int)) pe_str (nomark _)) (pe_un un_neg (pe_ix ix_list (pv 3) pe_int (fun _ _ => rfl))) (pe_ix ix_list (pv 3) pe_int (fun _ _ => rfl))) (pa_cons (pe_ifExp (pt_cmpR op_eq (pe_callB call_len_seq (by rfl) T.n_len (by decide +kernel) (pa_cons (pv 2) pa_nil)) pe_int (nomark _)) (pe_ix ix_list (pv 3) pe_int (fun _ _ => rfl)) pe_int) pa_nil))))
      (pss_one (ps_ret (pe_ifExp (pt_cmpR op_eq (pe_fn G__law_ratio_text hq (hr.mono (by omega)) (by rfl) T.g__law_ratio_text T.k__law_ratio_text b__law_ratio_text .nil pass0 (pa_cons (pv 4) pa_nil)) (pv 0) (nomark _)) (pv 4) pe_non)))))))), ?body⟩)
  case len => obtain ⟨l, rfl, _⟩ := h; rfl
  case body =>
    obtain ⟨l, rfl, hl, h⟩ := h
    have hS : ∀ n u, IsRat l n u → ∀ v H', Same H H' → PairAt H' v n u → Q v H' := fun n u i w H' S r => by
      rcases h with ⟨m, t, j, q⟩ | ⟨no, _⟩
      · obtain ⟨e1, e2⟩ := isRat_inj i j
        rw [e1, e2] at r
        exact q w H' S r
      · exact absurd i (no n u)
    have hN : (∀ n u, ¬ IsRat l n u) → ∀ H', Same H H' → Q .non H' := fun no => by
      rcases h with ⟨m, t, j, q⟩ | ⟨_, q⟩
      · exact absurd j (no m t)
      · exact q
    refine ⟨fun σ' H' => σ' = [some (.str (S l)), some (.str (S (bare l))), none, none, none, none, none] ∧ H' = H, ?first, ?rest⟩
    case first =>
      refine ⟨_, rfl, _, rfl, S l, rfl, by rw [S_len, sizeLine_eq]; omega, rfl, _, rfl, ?_⟩
      rw [slice_to (by decide)]
      refine ite2 (fun c => ?_) (fun c => ?_)
      · have c' := (take1 l).symm.trans c
        refine ⟨_, rfl, _, rfl, S l, rfl, by rw [S_len, sizeLine_eq]; omega, ?_⟩
        rw [slice_from (by decide)]
        have e := bare_if l
        rw [if_pos (of_decide_eq_true c')] at e
        refine ⟨?_, rfl⟩
        rw [← e]
        rfl
      · have c' : ¬ l.head? = some 45 := fun z => c ((take1 l).trans (decide_eq_true z))
        have e := bare_if l
        rw [if_neg c'] at e
        refine ⟨_, rfl, ?_, rfl⟩
        rw [← e]
        rfl
    case rest =>
      rintro σ' H1 ⟨rfl, rfl⟩
      have hb := Nat.le_trans (bare_len l) hl
      obtain ⟨n1, n2⟩ := spl_len 47 (bare l).length (bare l) (Nat.le_refl _)
      refine ⟨_, rfl, ⟨_, rfl⟩, S (bare l), S [47], rfl, rfl, rfl, by rw [S_len, sizeLine_eq]; omega, fun lw nlw => ?_⟩
      rw [split_S (by simp) (by decide), List.map_map]
      have parts := @read_parts l
      have wne := spl_ne 47 (bare l)
      generalize TL.spl [47] 0 [] (bare l) = ws at n1 n2 nlw parts wne ⊢
      have hlw : upd H1 lw (.lst (ws.map (V.str ∘ S))) lw = some (.lst (ws.map (V.str ∘ S))) := upd_same
      have S1 : Same H1 (upd H1 lw (.lst (ws.map (V.str ∘ S)))) := same_new nlw
      generalize upd H1 lw (.lst (ws.map (V.str ∘ S))) = H2 at hlw S1 ⊢
      refine ⟨_, rfl, lw, rfl, ⟨_, SqL.of hlw⟩, fun D hD => ?_⟩
      refine lc_rel (xs := ws.map (V.str ∘ S)) (fun x y _ => ∃ z, x = .str (S z) ∧ y = .int (figN z)) (fun _ _ _ _ _ h => h) hD (SqL.of hlw) (by rw [List.length_map, sizeLine_eq]; omega) (fun _ => rfl) ?_ ?_
      · intro x hx H' Q' S' k
        obtain ⟨z, hz, rfl⟩ := List.mem_map.mp hx
        exact ⟨_, rfl, z, rfl, by have := n2 z hz; omega, fun H3 S3 => k _ H3 S3 ⟨z, rfl, rfl⟩⟩
      · rintro ys H3 S3 dy pr
        obtain rfl : ys = ws.map fun w => .int (figN w) := by
          clear n1 n2 nlw parts hlw dy wne
          induction ws generalizing ys with
          | nil => cases pr; rfl
          | cons w ws ih =>
            cases pr with
            | cons f pr =>
              obtain ⟨z, e, rfl⟩ := f
              rw [List.map_cons, ← ih _ pr, str_S e]
        have S13 := S1.trans S3
        have hlw3 := S3 _ _ hlw
        -- the end, once the pair is there
        have tail : ∀ (N U : Int) (v : V) (H' : Hp), U ≠ 0 → N.natAbs < 10 ^ 60 → U.natAbs < 10 ^ 60 → (∀ n u, IsRat l n u → N = n ∧ U = u) → PairAt H' v (rNum N U) (rUnd N U) → Same H1 H' →
            tRet (tIf (tTest (tOp rEq (tCall spLText [] E0 (tCons (tVar 4) tNil)) (tVar 0))) (tVar 4) (tC V.non)) { nx := fun x H' => Q V.non H', rt := Q } [some (.str (S l)), some (.str (S (bare l))), some (.ref lw), some (.ref D), some v, none, none] H' := fun N U v H' u0 bN bU same pa S' => by
          have red := red_of (n := N) u0
          have bN : N.natAbs < 10 ^ 64 := Nat.lt_of_lt_of_le bN (by decide +kernel)
          have bU : U.natAbs < 10 ^ 64 := Nat.lt_of_lt_of_le bU (by decide +kernel)
          refine ⟨_, rfl, v, _, _, rfl, pa, Nat.lt_of_le_of_lt (num_le u0) bN, Nat.lt_of_le_of_lt (und_le u0) bU, _, rfl, rfl, _, rfl, ite2 (fun c => ?_) (fun c => ?_)⟩
          · exact ⟨_, rfl, hS _ _ ⟨red, (str_S (of_decide_eq_true c)).symm⟩ _ _ S' pa⟩
          · refine hN (fun n u i => c (decide_eq_true ?_)) _ S'
            obtain ⟨e1, e2⟩ := same n u i
            rw [e1, e2, i.1.same.1, i.1.same.2, ← i.2]
        have bound : ∀ w ∈ ws, (figN w).natAbs < 10 ^ 60 := fun w hw => figN_le (k := 60) (by decide) (by have := n2 w hw; omega)
        have neg : ∀ {n u : Int}, IsRat l n u → ∀ w ∈ ws, ¬ figN w < 0 := fun {n u} i w hw => by
          rcases (parts i).2 with ⟨_, e⟩ | ⟨_, e⟩
          · rw [e] at hw
            rw [List.mem_singleton.mp hw, figN_num]
            omega
          · rw [e] at hw
            rcases List.mem_cons.mp hw with hw | hw
            · rw [hw, figN_num]; omega
            · rw [List.mem_singleton.mp hw, figN_num]; omega
        refine ⟨_, rfl, lw, _, rfl, .inl (SqL.of hlw3), _, _, rfl, rfl, _, rfl, ?_⟩
        match ws, wne with
        | [w1], _ =>
          refine iteF ?_
          refine ⟨_, rfl, D, rfl, ⟨_, SqL.of dy⟩, fun D2 hD2 => ?_⟩
          refine lc_rel (xs := [.int (figN w1)]) (fun x y _ => ∃ i, x = .int i ∧ y = .bl (decide (i < 0))) (fun _ _ _ _ _ h => h) hD2 (SqL.of dy) (by show 1 < sizeLine; decide) (fun _ => rfl) ?_ ?_
          · intro x hx H' Q' S' k
            obtain ⟨i, rfl⟩ : ∃ i, x = .int i := by
              simp only [List.mem_cons, List.not_mem_nil, or_false] at hx
              exact ⟨_, hx⟩
            exact ⟨_, rfl, _, _, rfl, rfl, k _ H' (Same.refl _) ⟨_, rfl, rfl⟩⟩
          rintro zs H4 S4 dz pz
          obtain rfl : zs = [.bl (decide (figN w1 < 0))] := by
            cases pz with
            | cons f1 pz =>
              obtain ⟨i1, e1, rfl⟩ := f1
              cases V.int.inj e1
              cases pz
              rfl
          refine ⟨D2, [decide (figN w1 < 0)], rfl, SqL.of dz, _, rfl, ?_⟩
          have S14 := S13.trans S4
          have hlw4 := S4 _ _ hlw3
          have dy4 := S4 _ _ dy
          by_cases hneg : ∃ w ∈ [w1], figN w < 0
          · obtain ⟨w, hw, hn⟩ := hneg
            have ea : [decide (figN w1 < 0)].any id = true := List.any_eq_true.mpr ⟨true, ?_, rfl⟩
            · rw [ea]
              exact iteT (iteT (hN (fun n u i => neg i w hw hn) _ S14))
            · simp only [List.mem_cons, List.not_mem_nil, or_false] at hw ⊢
              rw [hw] at hn
              exact (decide_eq_true hn).symm
          have h_w1 : ¬ figN w1 < 0 := fun z => hneg ⟨w1, by simp, z⟩
          have ea : [decide (figN w1 < 0)].any id = false := by
            rw [decide_eq_false h_w1]
            rfl
          rw [ea]
          refine iteF ?_
          refine ⟨_, rfl, lw, _, rfl, .inl (SqL.of hlw4), rfl, _, rfl, iteF ?_⟩
          refine iteF ?_
          have u0 : (1 : Int) ≠ 0 := by decide
          have bU : (1 : Int).natAbs < 10 ^ 60 := by decide +kernel
          have bN := bound w1 (by simp)
          refine ⟨fun σ' H' => ∃ v, σ' = [some (.str (S l)), some (.str (S (bare l))), some (.ref lw), some (.ref D), some v, none, none] ∧ PairAt H' v (rNum (if l.head? = some 45 then -(figN w1) else figN w1) 1) (rUnd (if l.head? = some 45 then -(figN w1) else figN w1) 1) ∧ Same H1 H', ?a, ?b⟩
          case a =>
            refine ⟨_, rfl, _, rfl, S l, rfl, by rw [S_len, sizeLine_eq]; omega, rfl, _, rfl, ?_⟩
            rw [slice_to (by decide)]
            refine ite2 (fun c => ?_) (fun c => ?_)
            · have c' := of_decide_eq_true ((take1 l).symm.trans c)
              refine ⟨_, rfl, _, _, _, _, rfl, rfl, SqL.of dy4, rfl, _, rfl, ?_⟩
              refine ⟨_, rfl, lw, _, rfl, .inl (SqL.of hlw4), rfl, _, rfl, iteF ?_⟩
              refine ⟨_, _, rfl, u0, Nat.lt_of_lt_of_le bU (by decide +kernel), fun p H' np S' pa => ⟨_, rfl, ?_, S14.trans S'⟩⟩
              rw [if_pos c']
              exact pa
            · have c' : ¬ l.head? = some 45 := fun z => c ((take1 l).trans (decide_eq_true z))
              refine ⟨_, rfl, _, _, _, _, rfl, rfl, SqL.of dy4, rfl, ?_⟩
              refine ⟨_, rfl, lw, _, rfl, .inl (SqL.of hlw4), rfl, _, rfl, iteF ?_⟩
              refine ⟨_, _, rfl, u0, Nat.lt_of_lt_of_le bU (by decide +kernel), fun p H' np S' pa => ⟨_, rfl, ?_, S14.trans S'⟩⟩
              rw [if_neg c']
              exact pa
          case b =>
            rintro σ' H' ⟨v, rfl, pa, S'⟩
            refine tail _ _ v H' u0 (by split <;> omega) bU (fun n u i => ?_) pa S'
            obtain ⟨hd, e⟩ := parts i
            rcases e with ⟨eu, e⟩ | ⟨_, e⟩
            · have ew : w1 = TL.numL n.natAbs := (List.cons.inj e).1
              have e1 : (if l.head? = some 45 then -(figN w1) else figN w1) = n := by
                rw [ew, figN_num]
                by_cases hn : n < 0
                · rw [if_pos (of_decide_eq_true (hd.trans (decide_eq_true hn)))]
                  omega
                · rw [if_neg fun z => hn (of_decide_eq_true (hd.symm.trans (decide_eq_true z)))]
                  omega
              exact ⟨e1, eu.symm⟩
            · cases e
        | [w1, w2], _ =>
          refine iteF ?_
          refine ⟨_, rfl, D, rfl, ⟨_, SqL.of dy⟩, fun D2 hD2 => ?_⟩
          refine lc_rel (xs := [.int (figN w1), .int (figN w2)]) (fun x y _ => ∃ i, x = .int i ∧ y = .bl (decide (i < 0))) (fun _ _ _ _ _ h => h) hD2 (SqL.of dy) (by show 2 < sizeLine; decide) (fun _ => rfl) ?_ ?_
          · intro x hx H' Q' S' k
            obtain ⟨i, rfl⟩ : ∃ i, x = .int i := by
              simp only [List.mem_cons, List.not_mem_nil, or_false] at hx
              rcases hx with rfl | rfl <;> exact ⟨_, rfl⟩
            exact ⟨_, rfl, _, _, rfl, rfl, k _ H' (Same.refl _) ⟨_, rfl, rfl⟩⟩
          rintro zs H4 S4 dz pz
          obtain rfl : zs = [.bl (decide (figN w1 < 0)), .bl (decide (figN w2 < 0))] := by
            cases pz with
            | cons f1 pz =>
              obtain ⟨i1, e1, rfl⟩ := f1
              cases V.int.inj e1
              cases pz with
              | cons f2 pz =>
                obtain ⟨i2, e2, rfl⟩ := f2
                cases V.int.inj e2
                cases pz
                rfl
          refine ⟨D2, [decide (figN w1 < 0), decide (figN w2 < 0)], rfl, SqL.of dz, _, rfl, ?_⟩
          have S14 := S13.trans S4
          have hlw4 := S4 _ _ hlw3
          have dy4 := S4 _ _ dy
          by_cases hneg : ∃ w ∈ [w1, w2], figN w < 0
          · obtain ⟨w, hw, hn⟩ := hneg
            have ea : [decide (figN w1 < 0), decide (figN w2 < 0)].any id = true := List.any_eq_true.mpr ⟨true, ?_, rfl⟩
            · rw [ea]
              exact iteT (iteT (hN (fun n u i => neg i w hw hn) _ S14))
            · simp only [List.mem_cons, List.not_mem_nil, or_false] at hw ⊢
              rcases hw with rfl | rfl
              · exact .inl (decide_eq_true hn).symm
              · exact .inr (decide_eq_true hn).symm
          have h_w1 : ¬ figN w1 < 0 := fun z => hneg ⟨w1, by simp, z⟩
          have h_w2 : ¬ figN w2 < 0 := fun z => hneg ⟨w2, by simp, z⟩
          have ea : [decide (figN w1 < 0), decide (figN w2 < 0)].any id = false := by
            rw [decide_eq_false h_w1, decide_eq_false h_w2]
            rfl
          rw [ea]
          refine iteF ?_
          refine ⟨_, rfl, lw, _, rfl, .inl (SqL.of hlw4), rfl, _, rfl, iteT ?_⟩
          refine ⟨_, rfl, _, _, _, _, rfl, rfl, SqL.of dy4, rfl, rfl, _, rfl, ite2 (fun c => ?_) (fun c => ?_)⟩
          · have z := of_decide_eq_true c
            injection z with z
            refine hN (fun n u i => ?_) _ S14
            rcases (parts i).2 with ⟨_, e⟩ | ⟨_, e⟩
            · cases e
            · rw [(List.cons.inj (List.cons.inj e).2).1, figN_num] at z
              have := i.1.pos
              omega
          have u0 : (figN w2 : Int) ≠ 0 := fun z => c (decide_eq_true (congrArg V.int z))
          have bU : (figN w2 : Int).natAbs < 10 ^ 60 := bound w2 (by simp)
          have bN := bound w1 (by simp)
          refine ⟨fun σ' H' => ∃ v, σ' = [some (.str (S l)), some (.str (S (bare l))), some (.ref lw), some (.ref D), some v, none, none] ∧ PairAt H' v (rNum (if l.head? = some 45 then -(figN w1) else figN w1) (figN w2)) (rUnd (if l.head? = some 45 then -(figN w1) else figN w1) (figN w2)) ∧ Same H1 H', ?a, ?b⟩
          case a =>
            refine ⟨_, rfl, _, rfl, S l, rfl, by rw [S_len, sizeLine_eq]; omega, rfl, _, rfl, ?_⟩
            rw [slice_to (by decide)]
            refine ite2 (fun c => ?_) (fun c => ?_)
            · have c' := of_decide_eq_true ((take1 l).symm.trans c)
              refine ⟨_, rfl, _, _, _, _, rfl, rfl, SqL.of dy4, rfl, _, rfl, ?_⟩
              refine ⟨_, rfl, lw, _, rfl, .inl (SqL.of hlw4), rfl, _, rfl, iteT ⟨_, rfl, _, _, _, _, rfl, rfl, SqL.of dy4, rfl, ?_⟩⟩
              refine ⟨_, _, rfl, u0, Nat.lt_of_lt_of_le bU (by decide +kernel), fun p H' np S' pa => ⟨_, rfl, ?_, S14.trans S'⟩⟩
              rw [if_pos c']
              exact pa
            · have c' : ¬ l.head? = some 45 := fun z => c ((take1 l).trans (decide_eq_true z))
              refine ⟨_, rfl, _, _, _, _, rfl, rfl, SqL.of dy4, rfl, ?_⟩
              refine ⟨_, rfl, lw, _, rfl, .inl (SqL.of hlw4), rfl, _, rfl, iteT ⟨_, rfl, _, _, _, _, rfl, rfl, SqL.of dy4, rfl, ?_⟩⟩
              refine ⟨_, _, rfl, u0, Nat.lt_of_lt_of_le bU (by decide +kernel), fun p H' np S' pa => ⟨_, rfl, ?_, S14.trans S'⟩⟩
              rw [if_neg c']
              exact pa
          case b =>
            rintro σ' H' ⟨v, rfl, pa, S'⟩
            refine tail _ _ v H' u0 (by split <;> omega) bU (fun n u i => ?_) pa S'
            obtain ⟨hd, e⟩ := parts i
            rcases e with ⟨_, e⟩ | ⟨_, e⟩
            · cases e
            · have ew : w1 = TL.numL n.natAbs := (List.cons.inj e).1
              have ew2 : w2 = TL.numL u.natAbs := (List.cons.inj (List.cons.inj e).2).1
              have e1 : (if l.head? = some 45 then -(figN w1) else figN w1) = n := by
                rw [ew, figN_num]
                by_cases hn : n < 0
                · rw [if_pos (of_decide_eq_true (hd.trans (decide_eq_true hn)))]
                  omega
                · rw [if_neg fun z => hn (of_decide_eq_true (hd.symm.trans (decide_eq_true z)))]
                  omega
              refine ⟨e1, ?_⟩
              rw [ew2, figN_num]
              have := i.1.pos
              omega
        | w1 :: w2 :: w3 :: r, _ =>
          refine ite2 (fun _ => ?_) (fun c => absurd (decide_eq_true ?_) c)
          · refine iteT (hN (fun n u i => ?_) _ S13)
            rcases (parts i).2 with ⟨_, e⟩ | ⟨_, e⟩ <;> cases e
          · simp only [List.length_map, List.length_cons]
            omega
end
end My

namespace My
open PySem PySem.Spec PyProof.Rows L2 G SX NumText
abbrev s__law_drawn : Stmt := topS 35
theorem sc__law_drawn : FnScope ["_law_pot_here", "_law_some"] ["_law_pot_here"] (defScope s__law_drawn) := ⟨rfl, rfl, rfl, by decide +kernel, rfl, by decide +kernel, by decide +kernel⟩

abbrev s__law_bent_text : Stmt := topS 36
theorem sc__law_bent_text : FnScope ["_law_pot_here", "_law_text", "_law_at", "_law_way", "_law_sign"] ["_law_pot_here", "_law_text"] (defScope s__law_bent_text) := ⟨rfl, rfl, rfl, by decide +kernel, rfl, by decide +kernel, by decide +kernel⟩

def spDrawnT : Sp := fun vs H Q _ => ∃ (p : Addr) (k : Nat), vs = [.ref p] ∧ PotAt H p k ∧ k ≤ 90000 ∧ ∀ l H', TxtOk l 20 → Go p (k + 3) H H' → Q (.str (S l)) H'
def spBent : Sp := fun vs H Q _ => ∃ (p : Addr) (k m : Nat) (l : List Nat), vs = [.ref p, .str (S l)] ∧ PotAt H p k ∧ k ≤ 90000 ∧ TxtOk l m ∧ m ≤ 1000 ∧ ∀ l' H', TxtOk l' (m + 2) → Go p (k + 4) H H' → Q (.str (S l')) H'
/-- what is made of texts -/
theorem add_txt {a b : List Nat} {j k n : Nat} {H : Hp} {Q : VK} (h : TxtOk a j) (h' : TxtOk b k) (hn : j + k ≤ n) (hz : n ≤ 10000) (q : TxtOk (a ++ b) n → Q (.str (S (a ++ b))) H) : ∃ i j, V.str (S a) = .str i ∧ V.str (S b) = .str j ∧ i.length + j.length ≤ sizeLine ∧ Q (.str (i ++ j)) H := by
  refine ⟨_, _, rfl, rfl, by rw [S_len, S_len, sizeLine_eq]; have := h.1; have := h'.1; omega, ?_⟩
  rw [S_cat]
  exact q (h.app h' hn)
theorem cat_len {a b : List Nat} {j k : Nat} (h : TxtOk a j) (h' : TxtOk b k) (hz : j + k ≤ 10000) : (S a).length + (S b).length ≤ sizeLine := by
  rw [S_len, S_len, sizeLine_eq]
  have := h.1
  have := h'.1
  omega
section
variable {P : Program} {w : World} {K : PySem.W.Frag} {mg : Str → Option Value} {base : Heap} {a : Ad}
theorem ok__law_drawn {fd : FuncData} (F : Fun K "_law_drawn" "_law_drawn" s__law_drawn a._law_drawn fd) (T : Txt K mg a)
    {fd__law_ratio_text : FuncData} (G__law_ratio_text : Fn P w K mg base CX0 1 a._law_ratio_text fd__law_ratio_text ["_law_pair_here"] spLText) (b__law_ratio_text : Binds K fd__law_ratio_text ["_law_pair_here"] [])
    {fd__law_pair : FuncData} (G__law_pair : Fn P w K mg base CX0 2 a._law_pair fd__law_pair ["_law_above", "_law_under"] spPair) (b__law_pair : Binds K fd__law_pair ["_law_above", "_law_under"] [])
    {fd__law_of : FuncData} (G__law_of : Fn P w K mg base CX0 2 a._law_of fd__law_of ["_law_pot_here", "_law_some"] spOf) (b__law_of : Binds K fd__law_of ["_law_pot_here", "_law_some"] [])
    {fd__law_take : FuncData} (G__law_take : Fn P w K mg base CX0 1 a._law_take fd__law_take ["_law_pot_here", "_law_upto"] spTake) (b__law_take : Binds K fd__law_take ["_law_pot_here", "_law_upto"] []) :
    Fn P w K mg base CX0 3 a._law_drawn fd ["_law_pot_here"] spDrawnT := by
  refine ok F sc__law_drawn (fun vs H Q E h => ?len) (fun cdv A outer s H vs Q E hq hr h => ⟨_,
      (pss_cons (ps_set (i := 1) sc__law_drawn.nd rfl (Or.inl rfl) (pe_lstS (pa_cons pe_int (pa_cons pe_int (pa_cons (pe_un un_neg pe_int) (pa_cons pe_int (pa_cons (pe_un un_neg pe_int) (pa_cons pe_int (pa_cons pe_int (pa_cons (pe_un un_neg pe_int) (pa_cons (pe_op op_sub (pe_fn G__law_take hq (hr.mono (by omega)) (by rfl) T.g__law_take T.k__law_take b__law_take .nil pass0 (pa_cons (pv 0) (pa_cons pe_int pa_nil))) pe_int) pa_nil)))))))))))
      (pss_one (ps_ret (pe_fn G__law_ratio_text hq (hr.mono (by omega)) (by rfl) T.g__law_ratio_text T.k__law_ratio_text b__law_ratio_text .nil pass0 (pa_cons (pe_fn G__law_pair hq (hr.mono (by omega)) (by rfl) T.g__law_pair T.k__law_pair b__law_pair .nil pass0 (pa_cons (pe_fn G__law_of hq (hr.mono (by omega)) (by rfl) T.g__law_of T.k__law_of b__law_of .nil pass0 (pa_cons (pv 0) (pa_cons (pv 1) pa_nil))) (pa_cons (pe_fn G__law_of hq (hr.mono (by omega)) (by rfl) T.g__law_of T.k__law_of b__law_of .nil pass0 (pa_cons (pv 0) (pa_cons (pe_lstS (pa_cons pe_int (pa_cons pe_int (pa_cons pe_int (pa_cons pe_int (pa_cons pe_int (pa_cons pe_int (pa_cons pe_int (pa_cons pe_int (pa_cons pe_int pa_nil)))))))))) pa_nil))) pa_nil))) pa_nil))))), ?body⟩)
  case len => obtain ⟨p, k, rfl, _⟩ := h; rfl
  case body =>
    obtain ⟨p, k, rfl, pot, hk, q⟩ := h
    refine ⟨_, rfl, _, rfl, _, rfl, _, rfl, p, 4000, k, rfl, pot, by omega, by decide, by decide, fun d1 H1 a1 b1 g1 => ?_⟩
    refine ⟨_, _, rfl, rfl, (by show 9 ≤ sizeLine; decide), fun l hl sl => ?_⟩
    have S1 : ∀ o, Same H1 (upd H1 l o) := fun o => same_new hl
    have nl : l ≠ p := fun z => g1.pot.has (by rw [← z]; exact hl)
    refine ⟨_, rfl, _, rfl, p, l, k + 1, _, rfl, nl, g1.pot.same (S1 _), by omega, upd_same, (by simp), (by show 9 ≤ 10 ^ 6; decide), fun x H3 hx g3 => ?_⟩
    have g13 : Go p (k + 2) H H3 := g1.trans (Go.of (S1 _) g3)
    obtain ⟨i, rfl, i0, i1⟩ : ∃ i : Int, x = .int i ∧ -(10 ^ 6) ≤ i ∧ i ≤ 10 ^ 6 := by
      simp only [List.mem_cons, List.not_mem_nil, or_false] at hx
      rcases hx with rfl | rfl | rfl | rfl | rfl | rfl | rfl | rfl | rfl <;> exact ⟨_, rfl, by omega, by omega⟩
    refine ⟨_, rfl, (by show 9 ≤ sizeLine; decide), fun l2 hl2 sl2 => ?_⟩
    have S4 : ∀ o, Same H3 (upd H3 l2 o) := fun o => same_new hl2
    have nl2 : l2 ≠ p := fun z => g13.pot.has (by rw [← z]; exact hl2)
    refine ⟨p, l2, k + 2, _, rfl, nl2, g13.pot.same (S4 _), by omega, upd_same, (by simp), (by show 9 ≤ 10 ^ 6; decide), fun y H5 hy g5 => ?_⟩
    have g15 : Go p (k + 3) H H5 := g13.trans (Go.of (S4 _) g5)
    obtain ⟨j, rfl, j0, j1⟩ : ∃ j : Int, y = .int j ∧ 1 ≤ j ∧ j ≤ 10 ^ 6 := by
      simp only [List.mem_cons, List.not_mem_nil, or_false] at hy
      rcases hy with rfl | rfl | rfl | rfl | rfl | rfl | rfl | rfl | rfl <;> exact ⟨_, rfl, by omega, by omega⟩
    have j2 : j ≠ 0 := by omega
    refine ⟨i, j, rfl, j2, by omega, fun p6 H6 hp6 S6 pr => ?_⟩
    have n1 := num_le (n := i) j2
    have n2 := und_le (n := i) j2
    refine ⟨_, _, _, rfl, pr, by omega, by omega, ?_⟩
    refine q _ H6 ⟨?_, rat_txt _ _⟩ ⟨g15.keep.trans (mask_mono S6), g15.pot.same S6⟩
    have := ratL_le (k := 7) (j := 7) (by decide) (by decide) (show (rNum i j).natAbs < 10 ^ 7 by omega) (show (rUnd i j).natAbs < 10 ^ 7 by omega)
    omega
theorem ok__law_bent_text {fd : FuncData} (F : Fun K "_law_bent_text" "_law_bent_text" s__law_bent_text a._law_bent_text fd) (T : Txt K mg a)
    {fd__law_of : FuncData} (G__law_of : Fn P w K mg base CX0 2 a._law_of fd__law_of ["_law_pot_here", "_law_some"] spOf) (b__law_of : Binds K fd__law_of ["_law_pot_here", "_law_some"] [])
    {fd__law_take : FuncData} (G__law_take : Fn P w K mg base CX0 1 a._law_take fd__law_take ["_law_pot_here", "_law_upto"] spTake) (b__law_take : Binds K fd__law_take ["_law_pot_here", "_law_upto"] []) :
    Fn P w K mg base CX0 3 a._law_bent_text fd ["_law_pot_here", "_law_text"] spBent := by
  refine ok F sc__law_bent_text (fun vs H Q E h => ?len) (fun cdv A outer s H vs Q E hq hr h => ⟨_,
      (pss_cons (ps_par (i := 2) (j := 3) (by rfl) sc__law_bent_text.nd rfl rfl (by decide) rfl rfl (pa_cons (pe_fn G__law_take hq (hr.mono (by omega)) (by rfl) T.g__law_take T.k__law_take b__law_take .nil pass0 (pa_cons (pv 0) (pa_cons (pe_op op_add (pe_callB call_len_str (by rfl) T.n_len (by decide +kernel) (pa_cons (pv 1) pa_nil)) pe_int) pa_nil))) (pa_cons (pe_fn G__law_take hq (hr.mono (by omega)) (by rfl) T.g__law_take T.k__law_take b__law_take .nil pass0 (pa_cons (pv 0) (pa_cons pe_int pa_nil))) pa_nil)) (by rfl))
      (pss_cons (ps_set (i := 4) sc__law_bent_text.nd rfl (Or.inl rfl) (pe_fn G__law_of hq (hr.mono (by omega)) (by rfl) T.g__law_of T.k__law_of b__law_of .nil pass0 (pa_cons (pv 0) (pa_cons (pe_lstS (pa_cons pe_str (pa_cons pe_str (pa_cons pe_str (pa_cons pe_str (pa_cons pe_str (pa_cons pe_str (pa_cons pe_str (pa_cons pe_str (pa_cons pe_str (pa_cons pe_str (pa_cons pe_str (pa_cons pe_str pa_nil))))))))))))) pa_nil))))
      (pss_cons (ps_if (pt_cmpR op_eq (pv 3) pe_int (nomark _)) (pss_one (ps_ret (pe_op op_add_str (pe_slice C8.sl_txt (pv 1) po_none (po_some (pv 2))) (pe_slice C8.sl_txt (pv 1) (po_some (pe_op op_add (pv 2) pe_int)) po_none)))) pss_nil)
      (pss_cons (ps_if (pt_cmpR op_eq (pv 3) pe_int (nomark _)) (pss_one (ps_ret (pe_op op_add_str (pe_op op_add_str (pe_slice C8.sl_txt (pv 1) po_none (po_some (pv 2))) (pe_slice C8.sl_txt (pv 1) (po_some (pv 2)) (po_some (pe_op op_add (pv 2) pe_int)))) (pe_slice C8.sl_txt (pv 1) (po_some (pv 2)) po_none)))) pss_nil)
      (pss_cons (ps_if (pt_cmpR op_eq (pv 3) pe_int (nomark _)) (pss_one (ps_ret (pe_op op_add_str (pe_op op_add_str (pe_slice C8.sl_txt (pv 1) po_none (po_some (pv 2))) (pv 4)) (pe_slice C8.sl_txt (pv 1) (po_some (pv 2)) po_none)))) pss_nil)
      (pss_cons (ps_if (pt_cmpR op_eq (pv 3) pe_int (nomark _)) (pss_one (ps_ret (pe_op op_add_str (pe_op op_add_str (pe_slice C8.sl_txt (pv 1) po_none (po_some (pv 2))) (pv 4)) (pe_slice C8.sl_txt (pv 1) (po_some (pe_op op_add (pv 2) pe_int)) po_none)))) pss_nil)
      (pss_one (ps_ret (pe_fn G__law_of hq (hr.mono (by omega)) (by rfl) T.g__law_of T.k__law_of b__law_of .nil pass0 (pa_cons (pv 0) (pa_cons (pe_lstS (pa_cons (pe_op op_add_str (pv 1) pe_str) (pa_cons (pe_op op_add_str pe_str (pv 1)) (pa_cons (pe_op op_add_str (pv 1) (pe_slice C8.sl_txt (pv 1) (po_some (pe_un un_neg pe_int)) po_none)) (pa_cons (pe_op op_add_str pe_str (pv 1)) pa_nil))))) pa_nil))))))))))), ?body⟩)
  case len => obtain ⟨p, k, m, l, rfl, _⟩ := h; rfl
  case body =>
    obtain ⟨p, k, m, l, rfl, pot, hk, hl, hm, q⟩ := h
    have hl1 := hl.1
    have ln : (S l).length ≤ sizeLine := by rw [S_len, sizeLine_eq]; omega
    refine ⟨_, rfl, _, rfl, S l, rfl, ln, _, _, rfl, rfl, p, _, k, rfl, pot, by omega, by omega, by rw [S_len]; omega, fun d1 H1 a1 b1 g1 => ?_⟩
    refine ⟨_, rfl, p, 5, k + 1, rfl, g1.pot, by omega, by decide, by decide, fun d2 H2 a2 b2 g2 => ⟨_, _, rfl, ?_⟩⟩
    have g12 : Go p (k + 2) H H2 := g1.trans g2
    refine ⟨_, rfl, (by show 12 ≤ sizeLine; decide), fun lw nlw slw => ?_⟩
    have S2 : ∀ o, Same H2 (upd H2 lw o) := fun o => same_new nlw
    have nl : lw ≠ p := fun z => g12.pot.has (by rw [← z]; exact nlw)
    refine ⟨p, lw, k + 2, _, rfl, nl, g12.pot.same (S2 _), by omega, upd_same, (by simp), (by show 12 ≤ 10 ^ 6; decide), fun x H3 hx g3 => ?_⟩
    have g13 : Go p (k + 3) H H3 := g12.trans (Go.of (S2 _) g3)
    obtain ⟨sg, rfl, hs⟩ : ∃ sg, x = .str (S sg) ∧ TxtOk sg 2 := by
      simp only [List.mem_cons, List.not_mem_nil, or_false] at hx
      rcases hx with rfl | rfl | rfl | rfl | rfl | rfl | rfl | rfl | rfl | rfl | rfl | rfl
      · exact ⟨[48], rfl, txt_of _ _ (by decide)⟩
      · exact ⟨[49], rfl, txt_of _ _ (by decide)⟩
      · exact ⟨[50], rfl, txt_of _ _ (by decide)⟩
      · exact ⟨[52], rfl, txt_of _ _ (by decide)⟩
      · exact ⟨[45], rfl, txt_of _ _ (by decide)⟩
      · exact ⟨[47], rfl, txt_of _ _ (by decide)⟩
      · exact ⟨[32], rfl, txt_of _ _ (by decide)⟩
      · exact ⟨[43], rfl, txt_of _ _ (by decide)⟩
      · exact ⟨[46], rfl, txt_of _ _ (by decide)⟩
      · exact ⟨[97], rfl, txt_of _ _ (by decide)⟩
      · exact ⟨[32, 32], rfl, txt_of _ _ (by decide)⟩
      · exact ⟨[47, 49], rfl, txt_of _ _ (by decide)⟩
    obtain ⟨i, rfl⟩ := Int.eq_ofNat_of_zero_le a1
    rw [S_len] at b1
    have hi : i ≤ l.length := by omega
    have g14 : Go p (k + 4) H H3 := g13.mono (by omega)
    have up : Txt.slice (S l) none (some (i : Int)) = S (l.take i) := slice_to a1
    have down : Txt.slice (S l) (some (i : Int)) none = S (l.drop i) := slice_from a1
    have past : Txt.slice (S l) (some ((i : Int) + 1)) none = S (l.drop (i + 1)) := slice_from (i := ((i + 1 : Nat) : Int)) (by omega)
    have tu := hl.take i
    have td := hl.drop i
    have tp := hl.drop (i + 1)
    -- out
    refine ⟨_, rfl, rfl, _, rfl, ite2 (fun c => ?_) (fun c => ?_)⟩
    · refine ⟨_, rfl, _, rfl, _, rfl, S l, rfl, ln, ?_⟩
      rw [up]
      refine ⟨_, rfl, _, rfl, _, _, rfl, rfl, _, rfl, S l, rfl, ln, ?_⟩
      rw [past]
      exact add_txt tu tp (n := m + 2) (by omega) (by omega) fun t => q _ H3 t g14
    -- twice
    refine ⟨_, rfl, rfl, _, rfl, ite2 (fun c => ?_) (fun c => ?_)⟩
    · refine ⟨_, rfl, _, rfl, _, rfl, S l, rfl, ln, ?_⟩
      rw [up]
      refine ⟨_, rfl, _, rfl, _, rfl, _, rfl, _, _, rfl, rfl, _, rfl, S l, rfl, ln, ?_⟩
      obtain ⟨r, er, tr⟩ := slice_one hl i
      rw [er]
      have t1 := TxtOk.app (tu) (tr) (show _ ≤ min i l.length + 1 by omega)
      refine ⟨_, _, rfl, rfl, cat_len (tu) (tr) (by omega), ?_⟩
      rw [S_cat]
      refine ⟨_, rfl, _, rfl, _, rfl, S l, rfl, ln, ?_⟩
      rw [down]
      exact add_txt t1 td (n := m + 2) (by omega) (by omega) fun t => q _ H3 t g14
    -- a sign more
    refine ⟨_, rfl, rfl, _, rfl, ite2 (fun c => ?_) (fun c => ?_)⟩
    · refine ⟨_, rfl, _, rfl, _, rfl, S l, rfl, ln, ?_⟩
      rw [up]
      refine ⟨_, rfl, ?_⟩
      have t1 := TxtOk.app (tu) (hs) (show _ ≤ min i l.length + 2 by omega)
      refine ⟨_, _, rfl, rfl, cat_len (tu) (hs) (by omega), ?_⟩
      rw [S_cat]
      refine ⟨_, rfl, _, rfl, _, rfl, S l, rfl, ln, ?_⟩
      rw [down]
      exact add_txt t1 td (n := m + 2) (by omega) (by omega) fun t => q _ H3 t g14
    -- another sign
    refine ⟨_, rfl, rfl, _, rfl, ite2 (fun c => ?_) (fun c => ?_)⟩
    · refine ⟨_, rfl, _, rfl, _, rfl, S l, rfl, ln, ?_⟩
      rw [up]
      refine ⟨_, rfl, ?_⟩
      have t1 := TxtOk.app (tu) (hs) (show _ ≤ min i l.length + 2 by omega)
      refine ⟨_, _, rfl, rfl, cat_len (tu) (hs) (by omega), ?_⟩
      rw [S_cat]
      refine ⟨_, rfl, _, rfl, _, _, rfl, rfl, _, rfl, S l, rfl, ln, ?_⟩
      rw [past]
      exact add_txt t1 tp (n := m + 2) (by omega) (by omega) fun t => q _ H3 t g14
    -- a sign at an end
    refine ⟨_, rfl, _, rfl, ?_⟩
    have t1 := TxtOk.app (hl) (txt_of [32] 1 (by decide)) (show _ ≤ m + 2 by omega)
    refine ⟨_, _, rfl, rfl, cat_len (b := [32]) hl (txt_of [32] 1 (by decide)) (by omega), ?_⟩
    rw [S_cat]
    refine ⟨_, rfl, ?_⟩
    have t2 := TxtOk.app (txt_of [32] 1 (by decide)) (hl) (show _ ≤ m + 2 by omega)
    refine ⟨_, _, rfl, rfl, cat_len (a := [32]) (txt_of [32] 1 (by decide)) hl (by omega), ?_⟩
    rw [S_cat]
    refine ⟨_, rfl, _, rfl, _, rfl, _, rfl, S l, rfl, ln, ?_⟩
    obtain ⟨r, er, tr⟩ := slice_end hl
    rw [er]
    have t3 := TxtOk.app (hl) (tr) (show _ ≤ m + 2 by omega)
    refine ⟨_, _, rfl, rfl, cat_len (hl) (tr) (by omega), ?_⟩
    rw [S_cat]
    refine ⟨_, rfl, ?_⟩
    have t4 := TxtOk.app (txt_of [45] 1 (by decide)) (hl) (show _ ≤ m + 2 by omega)
    refine ⟨_, _, rfl, rfl, cat_len (a := [45]) (txt_of [45] 1 (by decide)) hl (by omega), ?_⟩
    rw [S_cat]
    refine ⟨(by show 4 ≤ sizeLine; decide), fun l2 nl2 sl2 => ?_⟩
    have S4 : ∀ o, Same H3 (upd H3 l2 o) := fun o => same_new nl2
    have n2 : l2 ≠ p := fun z => g13.pot.has (by rw [← z]; exact nl2)
    refine ⟨p, l2, k + 3, _, rfl, n2, g13.pot.same (S4 _), by omega, upd_same, (by simp), (by show 4 ≤ 10 ^ 6; decide), fun x H5 hx5 g5 => ?_⟩
    have g15 : Go p (k + 4) H H5 := g13.trans (Go.of (S4 _) g5)
    simp only [List.mem_cons, List.not_mem_nil, or_false] at hx5
    rcases hx5 with rfl | rfl | rfl | rfl
    · exact q _ H5 t1 g15
    · exact q _ H5 t2 g15
    · exact q _ H5 t3 g15
    · exact q _ H5 t4 g15
end
end My

namespace My
open PySem PySem.Spec PyProof.Rows L2 G LamX
abbrev s__law_told : Stmt := topS 27
theorem sc__law_told : FnScope ["_law_ask", "_law_caught", "_law_back", "error"] ["_law_ask"] (defScope s__law_told) := ⟨rfl, rfl, rfl, by decide +kernel, rfl, by decide +kernel, by decide +kernel⟩

/-- what the law's asking makes of the lambda's reading: the error, or what came back -/
def TTold (K : PySem.W.Frag) (CS : Addr) : (XK → Hp → VK → Prop) → Hp → VK → Prop := fun tl H Q => ∀ H1, Same H H1 → ∀ (E' : XK) (Q' : VK),
  (∀ C d H', PySem.W.exmOne K (.ref C) (.ref CS) = some true → (∀ e, H' e = none → ∀ T, upd H' e (exc e C d) T = none → Q (.ref T) (upd (upd H' e (exc e C d)) T (.tup [.ref e, .non]))) → E' (.ref C) d H') →
  (∀ v H', (∀ T, H' T = none → Q (.ref T) (upd H' T (.tup [.non, v]))) → Q' v H') → tl E' H1 Q'
section
variable {P : Program} {w : World} {K : PySem.W.Frag} {mg : Str → Option Value} {base : Heap} {a : Ad}
theorem told_asks {X : Cx} (hA : X.mg "AboutError" = some (.ref a.AboutError)) (g : Addr) (cdg : Value) (q : Str) :
    Asks X ["_law_ask", "_law_caught", "_law_back", "error"] "_law_told" (defScope s__law_told) g cdg (defBody s__law_told) "_law_ask" q (TTold X.K a.AboutError) := by
  intro f c' s H Q tl act hc h
  refine ⟨_, pss_cons (ps_asg (pe_tup (pa_cons pe_non (pa_cons pe_non pa_nil))) (pg_tup rfl (pgs_cons (pg_name (i := 1) sc__law_told.nd rfl (Or.inl rfl)) (pgs_cons (pg_name (i := 2) sc__law_told.nd rfl (Or.inl rfl)) pgs_nil))))
    (pss_cons (ps_try_asT (i := 3) (c := .ref a.AboutError) rfl rfl rfl sc__law_told.nd rfl rfl ⟨rfl, by decide, .inl hA⟩
      (fun W pn xe tk _ => pss_one (ps_set (i := 2) sc__law_told.nd rfl (.inl rfl) (act W pn xe _ _ tk)))
      (fun e oe cls d pn _ _ => pss_one (ps_set (i := 1) sc__law_told.nd rfl (.inl rfl) (pv 3))))
    (pss_one (ps_ret (pe_tup (pa_cons (pv 1) (pa_cons (pv 2) pa_nil)))))), ?_⟩
  refine ⟨(by show 2 ≤ sizeLine; decide), fun t1 h1 => ⟨t1, _, rfl, SqT.of upd_same, rfl, ?_⟩⟩
  refine ⟨_, _, rfl, _, _, rfl, rfl, rfl, same_new h1 _ _ hc, ?_⟩
  refine h _ (same_new h1) _ _ (fun C d H' x q => ⟨x, C, rfl, fun e he => ?_⟩) (fun v H' q => ?_)
  · refine ⟨_, rfl, _, rfl, _, rfl, (by show 2 ≤ sizeLine; decide), fun T hT => ?_⟩
    exact q e he T hT
  · refine ⟨_, rfl, _, rfl, (by show 2 ≤ sizeLine; decide), fun T hT => ?_⟩
    exact q T hT
end
end My

namespace My
open PySem PySem.Spec PyProof.Rows L2 G LamX

/-! ### all but the pot and the tables of code objects stays -/
def IsTb (H : Hp) (b : Addr) : Prop := ∃ ps, H b = some (.tbl ps)
noncomputable abbrev vw (p : Addr) (H : Hp) : Hp := mask (fun b => b = p ∨ IsTb H b) H
theorem vw_le (p : Addr) (H : Hp) : Same (vw p H) H := mask_le _ _
theorem vw_at {p b : Addr} {H : Hp} {o : HO} (h : H b = some o) (hb : b ≠ p) (ho : ∀ ps, o ≠ .tbl ps) : vw p H b = some o := by
  refine (mask_out ?_).trans h
  rintro (z | ⟨ps, z⟩)
  · exact hb z
  · rw [h] at z
    exact ho ps (Option.some.inj z)
theorem vw_some {p b : Addr} {H : Hp} {o : HO} (h : vw p H b = some o) : b ≠ p ∧ H b = some o ∧ ∀ ps, o ≠ .tbl ps := by
  obtain ⟨n, e⟩ := mask_some h
  exact ⟨fun z => n (.inl z), e, fun ps z => n (.inr ⟨ps, by rw [e, z]⟩)⟩
def Kp (p : Addr) (H H' : Hp) : Prop := Same (vw p H) (vw p H')
theorem Kp.refl (p : Addr) (H : Hp) : Kp p H H := Same.refl _
theorem Kp.trans {p : Addr} {H H1 H2 : Hp} (a : Kp p H H1) (b : Kp p H1 H2) : Kp p H H2 := Same.trans a b
theorem Kp.same {p : Addr} {H H' : Hp} (S : Same H H') : Kp p H H' := fun b o e => by
  obtain ⟨n, e, t⟩ := vw_some e
  exact vw_at (S _ _ e) n t
theorem Kp.ext {p : Addr} {H H' : Hp} (S : ExtN H H') : Kp p H H' := fun b o e => by
  obtain ⟨n, e, t⟩ := vw_some e
  exact vw_at (S _ _ e t) n t
theorem Kp.go {p : Addr} {n : Nat} {H H' : Hp} (g : Go p n H H') : Kp p H H' := fun b o e => by
  obtain ⟨n, e, t⟩ := vw_some e
  exact vw_at (g.at e n) n t
theorem Kp.at {p b : Addr} {H H' : Hp} {o : HO} (k : Kp p H H') (h : H b = some o) (hb : b ≠ p) (ho : ∀ ps, o ≠ .tbl ps) : H' b = some o := (vw_some (k b o (vw_at h hb ho))).2.1
mutual
theorem da_strip {p : Addr} {H : Hp} : ∀ {v : V} {d : PyData}, Da (mask (fun b => b = p) H) v d → Da (vw p H) v d
  | _, _, .non => .non
  | _, _, .bl b => .bl b
  | _, _, .int i => .int i
  | _, _, .str x => .str x
  | _, _, .lst e n t => .lst (vw_at (mask_some e).2 (mask_some e).1 fun _ z => nomatch z) n (daAll_strip t)
  | _, _, .tup e t => .tup (vw_at (mask_some e).2 (mask_some e).1 fun _ z => nomatch z) (daAll_strip t)
  | _, _, .dct e t => .dct (vw_at (mask_some e).2 (mask_some e).1 fun _ z => nomatch z) (daAll_strip t)
theorem daAll_strip {p : Addr} {H : Hp} : ∀ {vs : List V} {ds : List PyData}, DaAll (mask (fun b => b = p) H) vs ds → DaAll (vw p H) vs ds
  | _, _, .nil => .nil
  | _, _, .cons h t => .cons (da_strip h) (daAll_strip t)
end
/-- what is asked to divide: 0 as a Ratio, or data -/
def Ob (C p : Addr) (H : Hp) (x : V) : Prop := RatAt C (vw p H) x 0 1 ∨ ∃ d, Da (vw p H) x d ∧ OddG d
theorem Ob.kp {C p : Addr} {H H' : Hp} {x : V} (k : Kp p H H') (o : Ob C p H x) : Ob C p H' x :=
  o.imp (fun h => h.same k) fun ⟨d, a, g⟩ => ⟨d, a.same k, g⟩
theorem RatAt.vw {C p : Addr} {k : Nat} {H : Hp} {v : V} {n u : Int} (pot : PotAt H p k) (h : RatAt C H v n u) : RatAt C (vw p H) v n u := by
  obtain ⟨a, dx, e, h⟩ := h
  refine ⟨a, dx, e, vw_at h (fun z => ?_) fun _ z => nomatch z⟩
  obtain ⟨_, _, _, f, _⟩ := pot
  rw [z, f] at h
  cases h
theorem PairAt.vw {p : Addr} {k : Nat} {H : Hp} {v : V} {n u : Int} (pot : PotAt H p k) (h : PairAt H v n u) : PairAt (vw p H) v n u := by
  obtain ⟨a, e, h⟩ := h
  refine ⟨a, e, vw_at h (fun z => ?_) fun _ z => nomatch z⟩
  obtain ⟨_, _, _, f, _⟩ := pot
  rw [z, f] at h
  cases h
theorem PotAt.ext {p : Addr} {k : Nat} {H H' : Hp} (S : ExtN H H') (h : PotAt H p k) : PotAt H' p k := by
  obtain ⟨a, b, c, e, r⟩ := h
  exact ⟨a, b, c, S _ _ e (fun _ z => nomatch z), r⟩
theorem codeO_no {c : Addr} {q : Str} {xs : List V} : CodeO c q ≠ .lst xs := fun z => by
  unfold CodeO at z
  cases z
theorem Tabs.go {T : List (Addr × Str)} {p : Addr} {m n : Nat} {H H' : Hp} (g : Go p n H H') (pot : PotAt H p m) (t : Tabs T H) : Tabs T H' := fun x hx => by
  obtain ⟨a, b, c, f, _⟩ := pot
  obtain ⟨ps, h1, h2, h3⟩ := t x hx
  refine ⟨ps, g.at h1 (fun z => ?_), h2, fun ps cv hc => ?_⟩
  · rw [z, f] at h1
    cases h1
  · obtain ⟨y, e1, e2⟩ := h3 ps cv hc
    refine ⟨y, e1, g.at e2 fun z => ?_⟩
    rw [z, f] at e2
    exact codeO_no (Option.some.inj e2).symm
theorem da_ty {K : PySem.W.Frag} {mg : Str → Option Value} {a : Ad} (T : Txt K mg a) {H : Hp} {x : V} {d : PyData} (h : Da H x d) : ∃ t, TyX K H x (.type t) ∧ PySem.W.kitOne K (.type t) (.ref a.Ratio) = some false ∧
    ((∃ i, d = .int i ∧ x = .int i ∧ PySem.W.kitOne K (.type t) (.type "int") = some true ∧ PySem.W.kitOne K (.type t) (.type "bool") = some false) ∨
     (∃ b, d = .bool b ∧ PySem.W.kitOne K (.type t) (.type "int") = some true ∧ PySem.W.kitOne K (.type t) (.type "bool") = some true) ∨
     ((∀ i, d ≠ .int i) ∧ (∀ b, d ≠ .bool b) ∧ PySem.W.kitOne K (.type t) (.type "int") = some false ∧ PySem.W.kitOne K (.type t) (.type "bool") = some false)) := by
  cases h with
  | non => exact ⟨"NoneType", .base .non, T.ri.kt _ (by simp), .inr (.inr ⟨(fun _ z => nomatch z), (fun _ z => nomatch z), kit_ty (by decide +kernel), kit_ty (by decide +kernel)⟩)⟩
  | bl b => exact ⟨"bool", .base (.bl b), T.ri.kt _ (by simp), .inr (.inl ⟨b, rfl, kit_ty (by decide +kernel), kit_ty (by decide +kernel)⟩)⟩
  | int i => exact ⟨"int", .base (.int i), T.ri.kt _ (by simp), .inl ⟨i, rfl, rfl, kit_ty (by decide +kernel), kit_ty (by decide +kernel)⟩⟩
  | str y => exact ⟨"str", .base (.str y), T.ri.kt _ (by simp), .inr (.inr ⟨(fun _ z => nomatch z), (fun _ z => nomatch z), kit_ty (by decide +kernel), kit_ty (by decide +kernel)⟩)⟩
  | lst e n t => exact ⟨"list", .base (.lst e), T.ri.kt _ (by simp), .inr (.inr ⟨(fun _ z => nomatch z), (fun _ z => nomatch z), kit_ty (by decide +kernel), kit_ty (by decide +kernel)⟩)⟩
  | tup e t => exact ⟨"tuple", .base (.tup e), T.ri.kt _ (by simp), .inr (.inr ⟨(fun _ z => nomatch z), (fun _ z => nomatch z), kit_ty (by decide +kernel), kit_ty (by decide +kernel)⟩)⟩
  | dct e t => exact ⟨"dict", .base (.dK e), T.ri.kt _ (by simp), .inr (.inr ⟨(fun _ z => nomatch z), (fun _ z => nomatch z), kit_ty (by decide +kernel), kit_ty (by decide +kernel)⟩)⟩
end My

namespace My
open PySem PySem.Spec PyProof.Rows L2 G LamX SX NumText
abbrev s__law_is_ratio_right : Stmt := topS 37
theorem sc__law_is_ratio_right : FnScope ["_law_value", "_law_caught", "_law_made", "_law_due"] ["_law_value"] (defScope s__law_is_ratio_right) := ⟨rfl, rfl, rfl, by decide +kernel, rfl, by decide +kernel, by decide +kernel⟩

def lamR : Str := "_law_is_ratio_right.<locals>.<lambda>"
def lamP : Str := "_law_is_point_right.<locals>.<lambda>"
/-- both tables of code objects -/
abbrev TT2 (P1 P2 : Addr) : List (Addr × Str) := [(P1, lamR), (P2, lamP)]
theorem tt2_one {P1 P2 : Addr} (ne : P1 ≠ P2) : ∀ q ∈ TT2 P1 P2, q.1 = P1 → q.2 = lamR := fun q hq e => by
  rcases List.mem_cons.mp hq with rfl | hq
  · rfl
  · rw [List.mem_singleton.mp hq] at e
    exact absurd e.symm ne
theorem tt2_two {P1 P2 : Addr} (ne : P1 ≠ P2) : ∀ q ∈ TT2 P1 P2, q.1 = P2 → q.2 = lamP := fun q hq e => by
  rcases List.mem_cons.mp hq with rfl | hq
  · exact absurd e ne
  · rw [List.mem_singleton.mp hq]
theorem tt2m_one (P1 P2 : Addr) : (P1, lamR) ∈ TT2 P1 P2 := List.mem_cons_self ..
theorem tt2m_two (P1 P2 : Addr) : (P2, lamP) ∈ TT2 P1 P2 := List.mem_cons_of_mem _ (List.mem_singleton.mpr rfl)
/-- the lambdas' readings -/
def tAskR (K : PySem.W.Frag) (a : Ad) (E : XK) : TE := tSMeth a.Ratio (spOf_R K a.Ratio a.BadText) E (tC (.ref a.Ratio)) (tCons (tVar 0) tNil)
def tAskP (K : PySem.W.Frag) (a : Ad) (E : XK) : TE := tSMeth a.Point (spPOf K a.Ratio a.Point a.BadText) E (tC (.ref a.Point)) (tCons (tVar 0) tNil)
mutual
theorem da_ext {H H' : Hp} (S : ExtN H H') : ∀ {v : V} {d : PyData}, Da H v d → Da H' v d
  | _, _, .non => .non
  | _, _, .bl b => .bl b
  | _, _, .int i => .int i
  | _, _, .str x => .str x
  | _, _, .lst e n t => .lst (S _ _ e fun _ z => nomatch z) n (daAll_ext S t)
  | _, _, .tup e t => .tup (S _ _ e fun _ z => nomatch z) (daAll_ext S t)
  | _, _, .dct e t => .dct (S _ _ e fun _ z => nomatch z) (daAll_ext S t)
theorem daAll_ext {H H' : Hp} (S : ExtN H H') : ∀ {vs : List V} {ds : List PyData}, DaAll H vs ds → DaAll H' vs ds
  | _, _, .nil => .nil
  | _, _, .cons h t => .cons (da_ext S h) (daAll_ext S t)
end
theorem txt_gd {l : List Nat} (h : TxtOk l 60) : Gd 400 6 (.str (S l)) := by
  refine ⟨?_, rfl, Nat.zero_le _, ?_⟩
  · refine List.all_eq_true.mpr fun c hc => decide_eq_true ?_
    have := h.2 c (by simpa using hc)
    exact Nat.lt_of_lt_of_le this (by decide)
  · show (S l).cps.size ≤ 400
    have := h.1
    simp
    omega
def VT (l : List Nat) : Prop := l.length ≤ 60 ∧ Gd 400 6 (.str (S l))
theorem vt_of {l : List Nat} {k : Nat} (h : TxtOk l k) (hk : k ≤ 60) : VT l := ⟨Nat.le_trans h.1 hk, txt_gd (h.mono hk)⟩
/-- what is asked: a short text, or data that is none -/
def Val (H : Hp) (v : V) : Prop := (∃ l, v = .str (S l) ∧ VT l) ∨ ∃ d, Da H v d ∧ Gd 400 6 d ∧ ∀ x, d ≠ .str x
theorem Val.ext {H H' : Hp} (S : ExtN H H') {v : V} (h : Val H v) : Val H' v := h.imp id fun ⟨d, a, r⟩ => ⟨d, da_ext S a, r⟩
theorem Val.noStr {K : PySem.W.Frag} {H : Hp} {v : V} {d : PyData} (h : Da H v d) (n : ∀ x, d ≠ .str x) : NoStr K H v := by
  cases h with
  | non => exact ⟨_, .base .non, kit_ty (by decide +kernel)⟩
  | bl b => exact ⟨_, .base (.bl b), kit_ty (by decide +kernel)⟩
  | int i => exact ⟨_, .base (.int i), kit_ty (by decide +kernel)⟩
  | str y => exact absurd rfl (n y)
  | lst e n t => exact ⟨_, .base (.lst e), kit_ty (by decide +kernel)⟩
  | tup e t => exact ⟨_, .base (.tup e), kit_ty (by decide +kernel)⟩
  | dct e t => exact ⟨_, .base (.dK e), kit_ty (by decide +kernel)⟩
/-- as data -/
theorem Val.data {H : Hp} {v : V} (h : Val H v) : ∃ d, Da H v d ∧ Gd 400 6 d := by
  rcases h with ⟨l, rfl, h⟩ | ⟨d, a, g, _⟩
  · exact ⟨_, .str _, h.2⟩
  · exact ⟨d, a, g⟩
def spIsR (P1 P2 : Addr) : Sp := fun vs H Q _ => ∃ v, vs = [v] ∧ Val H v ∧ Tabs (TT2 P1 P2) H ∧ ∀ H', ExtN H H' → Tabs (TT2 P1 P2) H' → Q (.bl true) H'
section
variable {P : Program} {w : World} {K : PySem.W.Frag} {mg : Str → Option Value} {base : Heap} {a : Ad}
theorem ok_ratio_right {cA P1 P2 : Addr} {oc kV doc pm ct : Value} {an od : Option Addr} {osl : Array (Option Value)} (T : Txt K mg a)
    (lk : K.lookup a._law_is_ratio_right = some ⟨oc, od, .func (PySem.W.fnOf "_law_is_ratio_right" "_law_is_ratio_right" (defArgs s__law_is_ratio_right) (defBody s__law_is_ratio_right) (defScope s__law_is_ratio_right) .none kV doc pm an (.ref cA) ct), osl⟩)
    (hc : PySem.W.codeIn K (.ref cA) "_law_is_ratio_right" = true) (TB : TabB base mg cA P1) (ne : P1 ≠ P2)
    {oct kVt doct pmt cdt ctt : Value} {ant odt : Option Addr} {oslt : Array (Option Value)}
    (lkt : K.lookup a._law_told = some ⟨oct, odt, .func (PySem.W.fnOf "_law_told" "_law_told" (defArgs s__law_told) (defBody s__law_told) (defScope s__law_told) .none kVt doct pmt ant cdt ctt), oslt⟩)
    (hct : PySem.W.codeIn K cdt "_law_told" = true) (bt : Binds K (PySem.W.fnOf "_law_told" "_law_told" (defArgs s__law_told) (defBody s__law_told) (defScope s__law_told) .none kVt doct pmt ant cdt ctt) ["_law_ask"] [])
    {fd_Ratio_text : FuncData} (G_Ratio_text : FnOk P w K mg base CX0 2 a.Ratio_text fd_Ratio_text ["self"] (spText a.Ratio)) (b_Ratio_text : Binds K fd_Ratio_text ["self"] [])
    {fd__law_pair_of : FuncData} (G__law_pair_of : Fn P w K mg base CX0 1 a._law_pair_of fd__law_pair_of ["_law_made"] (spPo a.Ratio)) (b__law_pair_of : Binds K fd__law_pair_of ["_law_made"] [])
    {fd__law_read : FuncData} (G__law_read : Fn P w K mg base CX0 3 a._law_read fd__law_read ["_law_text"] spLRead) (b__law_read : Binds K fd__law_read ["_law_text"] [])
    {fd_Ratio_of : FuncData} (G_Ratio_of : FnOk P w K mg base (L2.CX P w) 5 a.Ratio_of fd_Ratio_of ["text"] (spOf_R K a.Ratio a.BadText)) (b_Ratio_of : Binds K fd_Ratio_of ["text"] [])
    : Fn P w K mg base CX0 8 a._law_is_ratio_right (PySem.W.fnOf "_law_is_ratio_right" "_law_is_ratio_right" (defArgs s__law_is_ratio_right) (defBody s__law_is_ratio_right) (defScope s__law_is_ratio_right) .none kV doc pm an (.ref cA) ct) ["_law_value"] (spIsR P1 P2) := by
  refine fnOf lk hc sc__law_is_ratio_right (fun vs H Q E h => ?len) (fun A outer s H vs Q E hq hr h => ?body)
  case len => obtain ⟨v, rfl, _⟩ := h; rfl
  case body =>
    suffices z : ∃ t, PSs (cxOf CX0 P w K mg base ["_law_value", "_law_caught", "_law_made", "_law_due"] "_law_is_ratio_right" (defScope s__law_is_ratio_right) a._law_is_ratio_right (.ref cA) A outer s H E).nox (defBody s__law_is_ratio_right) t ∧ t { nx := fun _ H' => Q .non H', rt := Q } (L2.start ["_law_value", "_law_caught", "_law_made", "_law_due"] vs) H by
      obtain ⟨t, z1, z2⟩ := z
      exact ⟨t, z1.nox, z2⟩
    refine ⟨_, (pss_cons (ps_asg (pe_asks (k := 5) (T := TT2 P1 P2) (TT := TTold K a.AboutError) (t := tAskR K a) (Ng := ["_law_ask", "_law_caught", "_law_back", "error"]) (by rfl) T.g__law_told T.k__law_told lkt hct bt sc__law_told rfl (.inl rfl) (told_asks T.g_AboutError _ _ _) TB rfl (tt2m_one P1 P2) (tt2_one ne) (hr.mono (by omega)) (lamS_by (sc := defScope s__law_is_ratio_right) (by decide +kernel)) rfl (fun _ _ _ _ _ => rfl) (fun A outer s H E f c' hr2 => (pe_smeth (pe_glob (v := .ref a.Ratio) (by rfl) T.g_Ratio rfl) T.oR (fnR G_Ratio_of b_Ratio_of) (hr2.mono (by omega)) (passes_call (takes_of rfl rfl rfl rfl) fun _ _ _ _ h => h) (pa_cons (pv 0) pa_nil)))) (pg_tup rfl (pgs_cons (pg_name (i := 1) sc__law_is_ratio_right.nd rfl (Or.inl rfl)) (pgs_cons (pg_name (i := 2) sc__law_is_ratio_right.nd rfl (Or.inl rfl)) pgs_nil))))
      (Evl.pss_cut (ps_set (i := 3) sc__law_is_ratio_right.nd rfl (Or.inl rfl) (pe_ifExp (pt_val (pe_callB call_isi (by rfl) T.n_isinstance (by decide +kernel) (pa_cons (pv 0) (pa_cons (pe_bltn (v := .ty "str") (u := .type "str") (by rfl) T.n_str (by decide +kernel) rfl) pa_nil)))) (pe_fn G__law_read hq (hr.mono (by omega)) (by rfl) T.g__law_read T.k__law_read b__law_read .nil pass0 (pa_cons (pv 0) pa_nil)) pe_non))
      (pss_cons (ps_if (pt_cmpR op_isN (pv 3) pe_non (nomark _)) (pss_one (ps_ret (pe_and (pe_callB (call_isCaught T.ek) (by rfl) T.n_isinstance (by decide +kernel) (pa_cons (pv 1) (pa_cons (pe_glob (v := .ref a.BadText) (by rfl) T.g_BadText rfl) pa_nil))) (pe_one (pe_cmpR op_eq (pe_callB (call_reprD hq hr.units) (by rfl) T.n_repr (by decide +kernel) (pa_cons (pe_valueC (pv 1)) pa_nil)) (pe_callB (call_reprD hq hr.units) (by rfl) T.n_repr (by decide +kernel) (pa_cons (pv 0) pa_nil)) (nomark _)))))) pss_nil)
      (pss_one (ps_ret (pe_and (pe_cmpR op_isN (pv 1) pe_non (nomark _)) (pe_and (pe_cmpR op_eq (pe_callB (call_reprF hq hr.units) (by rfl) T.n_repr (by decide +kernel) (pa_cons (pe_fn G__law_pair_of hq (hr.mono (by omega)) (by rfl) T.g__law_pair_of T.k__law_pair_of b__law_pair_of .nil pass0 (pa_cons (pv 2) pa_nil)) pa_nil)) (pe_callB (call_reprF hq hr.units) (by rfl) T.n_repr (by decide +kernel) (pa_cons (pv 3) pa_nil)) (nomark _)) (pe_one (pe_cmpR op_eq (pe_prop (pv 2) T.cl T.tR.choose_spec G_Ratio_text (hr.mono (by omega)) b_Ratio_text .nil pass0 (by rfl)) (pv 0) (nomark _)))))))))), ?_⟩
    obtain ⟨v, rfl, hv, tabs, q⟩ := h
    refine ⟨tabs, fun Ha Sa Ta => ?_⟩
    intro Hb Sb E' Q' hE hQ
    have Sab : ExtN H Hb := Sa.trans (ExtN.of Sb)
    have Tb : Tabs (TT2 P1 P2) Hb := Tabs.ext Ta Sb
    refine ⟨rfl, _, rfl, v, rfl, ?_⟩
    by_cases yes : ∃ l n u, v = .str (S l) ∧ VT l ∧ IsRat l n u
    · · obtain ⟨l, n, u, rfl, hl, i⟩ := yes
        obtain ⟨mn, mu, u0⟩ := rat_small i hl.1
        refine .inr ⟨l, rfl, hl.1, .inl ⟨n, u, i, fun w Hc Sc hw => hQ w Hc fun t ht => ?_⟩⟩
        refine ⟨t, _, rfl, SqT.of upd_same, rfl, _, _, rfl, _, _, rfl, rfl, ?_⟩
        have St : Same Hc (upd Hc t (.tup [.non, w])) := same_new ht
        have hw2 := hw.same St
        have Sbt := Sc.trans St
        generalize upd Hc t (.tup [.non, w]) = Hd at St hw2 Sbt ⊢
        refine ⟨fun σ' H' => ∃ pv, σ' = [some (.str (S l)), some .non, some w, some pv] ∧ Same Hd H' ∧ PairAt H' pv n u, ?_, ?_⟩
        · refine ⟨_, rfl, .str (S l), _, _, _, true, rfl, .ty _, .base (.str _), kit_ty (by decide +kernel), true, rfl, iteT ?_⟩
          exact ⟨_, rfl, l, rfl, hl.1, .inl ⟨n, u, i, fun pv He Se pa => ⟨pv, rfl, Se, pa⟩⟩⟩
        · rintro σ' He ⟨pv, rfl, Se, pa⟩
          obtain ⟨pp, rfl, hpp⟩ := pa
          refine ⟨_, rfl, rfl, _, rfl, iteF ?_⟩
          refine ⟨_, rfl, rfl, _, rfl, iteT ?_⟩
          refine ⟨_, rfl, w, n, u, rfl, hw2.same Se, fun p2 Hf np Sf pa2 => ?_⟩
          obtain ⟨_, ep, hp2⟩ := pa2
          cases ep
          refine ⟨p2, pairD n u, rfl, .tup hp2 (.cons (.int _) (.cons (.int _) .nil)), pair_gd mn mu, rfl, _, rfl, pp, pairD n u, rfl, .tup (Sf _ _ hpp) (.cons (.int _) (.cons (.int _) .nil)), pair_gd mn mu, rfl, rfl, _, rfl, ?_⟩
          rw [decide_eq_true rfl]
          refine iteT ?_
          obtain ⟨x, dx, rfl, hx⟩ := hw2
          have hx' := Sf _ _ (Se _ _ hx)
          refine ⟨_, rfl, x, dx, _, rfl, hx', _, n, u, rfl, ⟨x, dx, rfl, hx'⟩, mn, u0, mu, fun Hg Sg => ⟨_, rfl, rfl, ?_⟩⟩
          rw [← i.2, decide_eq_true rfl]
          have Sall := (Sbt.trans Se).trans (Sf.trans Sg)
          exact q Hg (Sab.trans (ExtN.of Sall)) (Tabs.ext Tb Sall)
    · have rd : ∀ H', ExtN H H' → NoStr K H' v ∨ ∃ l, v = .str (S l) ∧ l.length ≤ 60 ∧ ∀ n u, ¬ IsRat l n u := fun H' S' => by
        rcases hv with ⟨l, rfl, hl⟩ | ⟨d, hd, gd, nd⟩
        · exact .inr ⟨l, rfl, hl.1, fun n u i => yes ⟨l, n, u, rfl, hl, i⟩⟩
        · exact .inl (Val.noStr (da_ext S' hd) nd)
      have bad : ∀ d Hc, Same Hb Hc → Hc d = some (.xd [("value", v)]) → E' (.ref a.BadText) (some d) Hc := fun d Hc Sc hd => by
        refine hE a.BadText (some d) Hc T.x_BadText fun e he t ht => ?_
        have Se := same_new (o := exc e a.BadText (some d)) he
        have St := same_new (o := .tup [.ref e, .non]) ht
        have ct : Caught (upd (upd Hc e (exc e a.BadText (some d))) t (.tup [.ref e, .non])) e a.BadText v := ⟨d, St _ _ upd_same, St _ _ (Se _ _ hd)⟩
        have Sbf := (Sc.trans Se).trans St
        refine ⟨t, _, rfl, SqT.of upd_same, rfl, _, _, rfl, _, _, rfl, rfl, ?_⟩
        generalize (upd (upd Hc e (exc e a.BadText (some d))) t (.tup [.ref e, .non])) = Hf at ct Sbf ⊢
        have ef : ExtN H Hf := Sab.trans (ExtN.of Sbf)
        refine ⟨fun σ' H' => σ' = [some v, some (.ref e), some .non, some .non] ∧ Same Hf H', ?_, ?_⟩
        · rcases rd Hf ef with ⟨ty, t1, k1⟩ | ⟨l, rfl, hl, no⟩
          · exact ⟨_, rfl, v, _, _, _, false, rfl, .ty _, t1, k1, false, rfl, iteF ⟨rfl, Same.refl _⟩⟩
          · exact ⟨_, rfl, .str (S l), _, _, _, true, rfl, .ty _, .base (.str _), kit_ty (by decide +kernel), true, rfl, iteT ⟨_, rfl, l, rfl, hl, .inr ⟨no, fun He Se => ⟨rfl, Se⟩⟩⟩⟩
        · rintro σ' He ⟨rfl, Sfe⟩
          have ee := ef.trans (ExtN.of Sfe)
          have ct' := ct.same Sfe
          obtain ⟨dd, hdd, gd⟩ := (hv.ext ee).data
          refine ⟨_, rfl, rfl, _, rfl, iteT ?_⟩
          refine ⟨_, rfl, e, a.BadText, v, _, _, true, rfl, .own _, T.c_BadText, ct', T.t_BadText, true, rfl, iteT ?_⟩
          refine ⟨_, rfl, e, a.BadText, v, rfl, T.c_BadText, ct', v, dd, 400, 6, rfl, hdd, gd, ⟨by decide, by decide⟩, _, rfl, v, dd, 400, 6, rfl, hdd, gd, ⟨by decide, by decide⟩, rfl, ?_⟩
          rw [decide_eq_true rfl]
          exact q He ee (Tabs.ext Tb (Sbf.trans Sfe))
      rcases rd Hb Sab with ns | ⟨l, rfl, hl, no⟩
      · exact .inl ⟨ns, bad⟩
      · exact .inr ⟨l, rfl, hl, .inr ⟨no, bad⟩⟩
end
end My

namespace My
open PySem PySem.Spec PyProof.Rows L2 G LamX SX NumText
abbrev s__law_is_point_right : Stmt := topS 38
theorem sc__law_is_point_right : FnScope ["_law_value", "_law_caught", "_law_made", "_law_words", "_law_due", "_law_word"] ["_law_value"] (defScope s__law_is_point_right) := ⟨rfl, rfl, rfl, by decide +kernel, rfl, by decide +kernel, by decide +kernel⟩

theorem cut_ {S G : Prop} (f : S → G) (s : S) : G := f s
def wsOf : V → List (List Nat)
  | .str z => TL.spl [32] 0 [] z.cps.toList
  | _ => []
theorem wsOf_str (l : List Nat) : wsOf (.str (S l)) = TL.spl [32] 0 [] l := rfl
theorem wsOf_no {H : Hp} {v : V} {d : PyData} (h : Da H v d) (n : ∀ x, d ≠ .str x) : wsOf v = [] := by
  cases h with
  | str y => exact absurd rfl (n y)
  | _ => rfl
section
variable {P : Program} {w : World} {K : PySem.W.Frag} {mg : Str → Option Value} {base : Heap} {a : Ad}
theorem ok_point_right {cA P1 P2 : Addr} {oc kV doc pm ct : Value} {an od : Option Addr} {osl : Array (Option Value)} (T : Txt K mg a)
    (lk : K.lookup a._law_is_point_right = some ⟨oc, od, .func (PySem.W.fnOf "_law_is_point_right" "_law_is_point_right" (defArgs s__law_is_point_right) (defBody s__law_is_point_right) (defScope s__law_is_point_right) .none kV doc pm an (.ref cA) ct), osl⟩)
    (hc : PySem.W.codeIn K (.ref cA) "_law_is_point_right" = true) (TB : TabB base mg cA P2) (ne : P1 ≠ P2)
    {oct kVt doct pmt cdt ctt : Value} {ant odt : Option Addr} {oslt : Array (Option Value)}
    (lkt : K.lookup a._law_told = some ⟨oct, odt, .func (PySem.W.fnOf "_law_told" "_law_told" (defArgs s__law_told) (defBody s__law_told) (defScope s__law_told) .none kVt doct pmt ant cdt ctt), oslt⟩)
    (hct : PySem.W.codeIn K cdt "_law_told" = true) (bt : Binds K (PySem.W.fnOf "_law_told" "_law_told" (defArgs s__law_told) (defBody s__law_told) (defScope s__law_told) .none kVt doct pmt ant cdt ctt) ["_law_ask"] [])
    {fd__law_pair_of : FuncData} (G__law_pair_of : Fn P w K mg base CX0 1 a._law_pair_of fd__law_pair_of ["_law_made"] (spPo a.Ratio)) (b__law_pair_of : Binds K fd__law_pair_of ["_law_made"] [])
    {fd_Point_text : FuncData} (G_Point_text : FnOk P w K mg base CX0 4 a.Point_text fd_Point_text ["self"] (spPText a.Ratio a.Point)) (b_Point_text : Binds K fd_Point_text ["self"] [])
    {fd__law_read : FuncData} (G__law_read : Fn P w K mg base CX0 3 a._law_read fd__law_read ["_law_text"] spLRead) (b__law_read : Binds K fd__law_read ["_law_text"] [])
    {fd_Point_of : FuncData} (G_Point_of : FnOk P w K mg base (L2.CX P w) 8 a.Point_of fd_Point_of ["text"] (spPOf K a.Ratio a.Point a.BadText)) (b_Point_of : Binds K fd_Point_of ["text"] [])
    : Fn P w K mg base CX0 11 a._law_is_point_right (PySem.W.fnOf "_law_is_point_right" "_law_is_point_right" (defArgs s__law_is_point_right) (defBody s__law_is_point_right) (defScope s__law_is_point_right) .none kV doc pm an (.ref cA) ct) ["_law_value"] (spIsR P1 P2) := by
  refine fnOf lk hc sc__law_is_point_right (fun vs H Q E h => ?len) (fun A outer s H vs Q E hq hr h => ?body)
  case len => obtain ⟨v, rfl, _⟩ := h; rfl
  case body =>
    suffices z : ∃ t, PSs (cxOf CX0 P w K mg base ["_law_value", "_law_caught", "_law_made", "_law_words", "_law_due", "_law_word"] "_law_is_point_right" (defScope s__law_is_point_right) a._law_is_point_right (.ref cA) A outer s H E).nox (defBody s__law_is_point_right) t ∧ t { nx := fun _ H' => Q .non H', rt := Q } (L2.start ["_law_value", "_law_caught", "_law_made", "_law_words", "_law_due", "_law_word"] vs) H by
      obtain ⟨t, z1, z2⟩ := z
      exact ⟨t, z1.nox, z2⟩
    refine ⟨_, (Evl.pss_cut (ps_asg (pe_asks (k := 8) (T := TT2 P1 P2) (TT := TTold K a.AboutError) (t := tAskP K a) (Ng := ["_law_ask", "_law_caught", "_law_back", "error"]) (by rfl) T.g__law_told T.k__law_told lkt hct bt sc__law_told rfl (.inl rfl) (told_asks T.g_AboutError _ _ _) TB rfl (tt2m_two P1 P2) (tt2_two ne) (hr.mono (by omega)) (lamS_by (sc := defScope s__law_is_point_right) (by decide +kernel)) rfl (fun _ _ _ _ _ => rfl) (fun A outer s H E f c' hr2 => (pe_smeth (pe_glob (v := .ref a.Point) (by rfl) T.g_Point rfl) T.oP (fnR G_Point_of b_Point_of) (hr2.mono (by omega)) (passes_call (takes_of rfl rfl rfl rfl) fun _ _ _ _ h => h) (pa_cons (pv 0) pa_nil)))) (pg_tup rfl (pgs_cons (pg_name (i := 1) sc__law_is_point_right.nd rfl (Or.inl rfl)) (pgs_cons (pg_name (i := 2) sc__law_is_point_right.nd rfl (Or.inl rfl)) pgs_nil))))
      (Evl.pss_cut (ps_set (i := 3) sc__law_is_point_right.nd rfl (Or.inl rfl) (pe_ifExp (pt_val (pe_callB call_isi (by rfl) T.n_isinstance (by decide +kernel) (pa_cons (pv 0) (pa_cons (pe_bltn (v := .ty "str") (u := .type "str") (by rfl) T.n_str (by decide +kernel) rfl) pa_nil)))) (pe_m1 PySem.F.slot_str_split PySem.F.type_str_split mt_split (pv 0) pe_str) (pe_lstS pa_nil)))
      (pss_cons (ps_setLc (i := 4) (own := [("_law_word", 5)]) (g := gName 5) (tt := tYes) rfl sc__law_is_point_right.nd rfl rfl (sw_true rfl rfl rfl (by decide +kernel)) (pi_list (pv 3)) (blkOk_by (own := [("_law_word", 5)]) (N := ["_law_value", "_law_caught", "_law_made", "_law_words", "_law_due", "_law_word"]) (sc := defScope s__law_is_point_right) (by decide +kernel)) (fun _ _ _ _ _ => (pg_name (i := 5) sc__law_is_point_right.nd rfl (Or.inl rfl))) (fun _ _ _ _ _ => pts_nil) (fun _ _ _ _ _ => (pe_fn G__law_read hq (hr.mono (by omega)) (by rfl) T.g__law_read T.k__law_read b__law_read .nil pass0 (pa_cons (pv 5) pa_nil))))
      (pss_cons (ps_if (PW.pt (pw_or (pt_cmpR op_ne (pe_callB call_len_seq (by rfl) T.n_len (by decide +kernel) (pa_cons (pv 4) pa_nil)) pe_int (nomark _)) (pw_or1 (pt_cmpR (op_nonIn hr.units) pe_non (pv 4) (by rfl))))) (pss_one (ps_ret (pe_and (pe_callB (call_isCaught T.ek) (by rfl) T.n_isinstance (by decide +kernel) (pa_cons (pv 1) (pa_cons (pe_glob (v := .ref a.BadText) (by rfl) T.g_BadText rfl) pa_nil))) (pe_one (pe_cmpR op_eq (pe_callB (call_reprD hq hr.units) (by rfl) T.n_repr (by decide +kernel) (pa_cons (pe_valueC (pv 1)) pa_nil)) (pe_callB (call_reprD hq hr.units) (by rfl) T.n_repr (by decide +kernel) (pa_cons (pv 0) pa_nil)) (nomark _)))))) pss_nil)
      (pss_cons (ps_if (PW.pt (pw_or (pt_cmpR op_notN (pv 1) pe_non (nomark _)) (pw_or1 (pt_cmpR op_ne (pe_prop (pv 2) T.clP T.tP.choose_spec G_Point_text (hr.mono (by omega)) b_Point_text .nil pass0 (by rfl)) (pv 0) (nomark _))))) (pss_one (ps_ret pe_bl)) pss_nil)
      (pss_one (ps_ret (pe_cmpR op_eq (pe_callB (call_reprF hq hr.units) (by rfl) T.n_repr (by decide +kernel) (pa_cons (pe_lstS (pa_cons (pe_fn G__law_pair_of hq (hr.mono (by omega)) (by rfl) T.g__law_pair_of T.k__law_pair_of b__law_pair_of .nil pass0 (pa_cons (pe_fld (pv 2) rfl) pa_nil)) (pa_cons (pe_fn G__law_pair_of hq (hr.mono (by omega)) (by rfl) T.g__law_pair_of T.k__law_pair_of b__law_pair_of .nil pass0 (pa_cons (pe_fld (pv 2) rfl) pa_nil)) pa_nil))) pa_nil)) (pe_callB (call_reprF hq hr.units) (by rfl) T.n_repr (by decide +kernel) (pa_cons (pv 4) pa_nil)) (nomark _))))))))), ?_⟩
    obtain ⟨v, rfl, hv, tabs, q⟩ := h
    refine ⟨fun σ' H' => ∃ c m, σ' = [some v, some c, some m, none, none, none] ∧ ExtN H H' ∧ Tabs (TT2 P1 P2) H' ∧
      ((∃ l n u m1 t, v = .str (S l) ∧ VT l ∧ IsPt l n u m1 t ∧ c = .non ∧ PtAt a.Ratio a.Point H' m n u m1 t) ∨
       ((∀ l n u m1 t, v = .str (S l) → ¬ IsPt l n u m1 t) ∧ m = .non ∧ ∃ e, c = .ref e ∧ Caught H' e a.BadText v)), ?first, ?rest⟩
    case first =>
      refine ⟨tabs, fun Ha Sa Ta => ?_⟩
      intro Hb Sb E' Q' hE hQ
      have Sab : ExtN H Hb := Sa.trans (ExtN.of Sb)
      have Tb : Tabs (TT2 P1 P2) Hb := Tabs.ext Ta Sb
      refine ⟨rfl, _, rfl, v, rfl, ?_⟩
      by_cases yes : ∃ l n u m1 t, v = .str (S l) ∧ VT l ∧ IsPt l n u m1 t
      · obtain ⟨l, n, u, m1, t1, rfl, hl, i⟩ := yes
        refine .inr ⟨l, rfl, hl.1, .inl ⟨n, u, m1, t1, i, fun w Hc Sc hw => hQ w Hc fun t ht => ?_⟩⟩
        refine ⟨t, _, rfl, SqT.of upd_same, rfl, _, _, rfl, _, _, rfl, rfl, ?_⟩
        have St : Same Hc (upd Hc t (.tup [.non, w])) := same_new ht
        have Sbt := Sc.trans St
        exact ⟨.non, w, rfl, Sab.trans (ExtN.of Sbt), Tabs.ext Tb Sbt, .inl ⟨l, n, u, m1, t1, rfl, hl, i, rfl, hw.same St⟩⟩
      · have bad : ∀ d Hc, Same Hb Hc → Hc d = some (.xd [("value", v)]) → E' (.ref a.BadText) (some d) Hc := fun d Hc Sc hd => by
          refine hE a.BadText (some d) Hc T.x_BadText fun e he t ht => ?_
          have Se := same_new (o := exc e a.BadText (some d)) he
          have St := same_new (o := .tup [.ref e, .non]) ht
          have ct : Caught (upd (upd Hc e (exc e a.BadText (some d))) t (.tup [.ref e, .non])) e a.BadText v := ⟨d, St _ _ upd_same, St _ _ (Se _ _ hd)⟩
          have Sbf := (Sc.trans Se).trans St
          refine ⟨t, _, rfl, SqT.of upd_same, rfl, _, _, rfl, _, _, rfl, rfl, ?_⟩
          refine ⟨.ref e, .non, rfl, Sab.trans (ExtN.of Sbf), Tabs.ext Tb Sbf, .inr ⟨fun l n u m1 t ev ip => ?_, rfl, e, rfl, ct⟩⟩
          rcases hv with ⟨l', e1, hl⟩ | ⟨dd, hdd, _, nd⟩
          · obtain rfl := str_S (ev.symm.trans e1)
            exact yes ⟨l, n, u, m1, t, ev, hl, ip⟩
          · subst ev
            cases hdd
            exact nd _ rfl
        rcases hv with ⟨l, rfl, hl⟩ | ⟨dd, hdd, gd, nd⟩
        · exact .inr ⟨l, rfl, hl.1, .inr ⟨fun n u m1 t i => yes ⟨l, n, u, m1, t, rfl, hl, i⟩, bad⟩⟩
        · exact .inl ⟨Val.noStr (da_ext Sab hdd) nd, bad⟩
    case rest =>
      rintro σ' Hd ⟨c, m, rfl, ed, td, gb⟩
      refine ⟨fun σ' H' => ∃ lw, σ' = [some v, some c, some m, some (.ref lw), none, none] ∧ Same Hd H' ∧ H' lw = some (.lst ((wsOf v).map (V.str ∘ S))) ∧ (wsOf v).length ≤ 61 ∧ ∀ w ∈ wsOf v, w.length ≤ 60, ?words, ?more⟩
      case words =>
        rcases hv with ⟨l, rfl, hl⟩ | ⟨dd, hdd, gd, nd⟩
        · refine ⟨_, rfl, .str (S l), _, _, _, true, rfl, .ty _, .base (.str _), kit_ty (by decide +kernel), true, rfl, iteT ?_⟩
          refine ⟨_, rfl, ⟨_, rfl⟩, S l, S [32], rfl, rfl, rfl, by rw [S_len, sizeLine_eq]; have := hl.1; omega, fun lw nlw => ?_⟩
          obtain ⟨n1, n2⟩ := spl_len 32 l.length l (Nat.le_refl _)
          rw [wsOf_str]
          refine ⟨lw, rfl, same_new nlw, upd_same.trans ?_, by have := hl.1; omega, fun w hw => Nat.le_trans (n2 w hw) hl.1⟩
          rw [split_S (by simp) (by decide), List.map_map]
        · obtain ⟨ty, t1, k1⟩ := Val.noStr (K := K) (da_ext ed hdd) nd
          refine ⟨_, rfl, v, _, _, _, false, rfl, .ty _, t1, k1, false, rfl, iteF ?_⟩
          rw [wsOf_no hdd nd]
          refine ⟨(by show 0 ≤ sizeLine; decide), fun lw nlw slw => ⟨lw, rfl, same_new nlw, upd_same, by decide, ?_⟩⟩
          intro w hw
          cases hw
      case more =>
        rintro σ' H1 ⟨lw, rfl, S1, hlw, hw1, hw2⟩
        refine ⟨_, rfl, lw, rfl, ⟨_, SqL.of hlw⟩, fun D hD => ?_⟩
        refine lc_rel (xs := (wsOf v).map (V.str ∘ S)) (fun x y H => ∃ z, x = .str (S z) ∧ ((∃ n u, IsRat z n u ∧ PairAt H y n u) ∨ ((∀ n u, ¬ IsRat z n u) ∧ y = .non))) ?st hD (SqL.of hlw) (by rw [List.length_map, sizeLine_eq]; omega) (fun _ => rfl) ?_ ?_
        case st =>
          rintro x y H2 H3 k ⟨z, e, h | h⟩
          · obtain ⟨n, u, i, b, e2, hb⟩ := h
            exact ⟨z, e, .inl ⟨n, u, i, b, e2, k _ _ hb fun _ z => nomatch z⟩⟩
          · exact ⟨z, e, .inr h⟩
        · intro x hx H' Q' S' k
          obtain ⟨z, hz, rfl⟩ := List.mem_map.mp hx
          refine ⟨_, rfl, z, rfl, hw2 z hz, ?_⟩
          by_cases cc : ∃ n u, IsRat z n u
          · obtain ⟨n, u, i⟩ := cc
            exact .inl ⟨n, u, i, fun w H' S hw => k w H' S ⟨z, rfl, .inl ⟨n, u, i, hw⟩⟩⟩
          · have c' : ∀ n u, ¬ IsRat z n u := fun n u i => cc ⟨n, u, i⟩
            exact .inr ⟨c', fun H' S => k _ H' S ⟨z, rfl, .inr ⟨c', rfl⟩⟩⟩
        · rintro ys H2 S2 dy pr
          have S12 := S1.trans S2
          have e2 := ed.trans (ExtN.of S12)
          have t2 := Tabs.ext td S12
          have ly := pr.length
          rw [List.length_map] at ly
          rcases gb with ⟨l, n, u, m1, t1, rfl, hl, ip, rfl, hm⟩ | ⟨no, rfl, e, rfl, ct⟩
          · obtain ⟨p, q', ew, i1, i2⟩ := isPt_spl ip
            rw [wsOf_str, ew] at pr hw2
            obtain ⟨y1, y2, rfl, ⟨z1, e1, h1⟩, ⟨z2, e2', h2⟩⟩ : ∃ y1 y2, ys = [y1, y2] ∧ (∃ z, V.str (S p) = .str (S z) ∧ ((∃ n u, IsRat z n u ∧ PairAt H2 y1 n u) ∨ ((∀ n u, ¬ IsRat z n u) ∧ y1 = .non))) ∧ (∃ z, V.str (S q') = .str (S z) ∧ ((∃ n u, IsRat z n u ∧ PairAt H2 y2 n u) ∨ ((∀ n u, ¬ IsRat z n u) ∧ y2 = .non))) := by
              cases pr with
              | cons f1 pr =>
                cases pr with
                | cons f2 pr =>
                  cases pr
                  exact ⟨_, _, rfl, f1, f2⟩
            obtain rfl := str_S e1
            obtain rfl := str_S e2'
            have g1 : PairAt H2 y1 n u := by
              rcases h1 with ⟨n', u', j, pa⟩ | ⟨nn, _⟩
              · obtain ⟨a1, a2⟩ := isRat_inj i1 j
                rw [a1, a2]
                exact pa
              · exact absurd i1 (nn _ _)
            have g2 : PairAt H2 y2 m1 t1 := by
              rcases h2 with ⟨n', u', j, pa⟩ | ⟨nn, _⟩
              · obtain ⟨a1, a2⟩ := isRat_inj i2 j
                rw [a1, a2]
                exact pa
              · exact absurd i2 (nn _ _)
            obtain ⟨r1, rfl, hr1⟩ := g1
            obtain ⟨r2, rfl, hr2⟩ := g2
            obtain ⟨mn, mu, u0⟩ := rat_small i1 (hw2 _ (List.mem_cons_self ..))
            obtain ⟨mm, mt, t0⟩ := rat_small i2 (hw2 _ (List.mem_cons_of_mem _ (List.mem_singleton.mpr rfl)))
            have el : l = ratL n u ++ 32 :: ratL m1 t1 := by
              rw [spl_two ew, i1.2, i2.2]
            refine ⟨_, rfl, D, _, rfl, .inl (SqL.of dy), rfl, _, rfl, iteF ?_⟩
            refine ⟨_, rfl, D, _, rfl, rfl, SqL.of dy, ?_, _, rfl, iteF ?_⟩
            · intro x hx
              simp only [List.mem_cons, List.not_mem_nil, or_false] at hx
              rcases hx with rfl | rfl
              · exact .inr ⟨_, _, rfl, hr1⟩
              · exact .inr ⟨_, _, rfl, hr2⟩
            have hm2 := hm.same S12
            obtain ⟨b, dx, v1, w1, rfl, hb, hv1, hw1'⟩ := id hm2
            refine ⟨_, rfl, rfl, _, rfl, iteF ?_⟩
            refine ⟨_, rfl, b, dx, _, rfl, hb, _, n, u, m1, t1, rfl, hm2, ⟨mn, u0, mu⟩, ⟨mm, t0, mt⟩, fun H3 S3 => ⟨_, rfl, rfl, _, rfl, ?_⟩⟩
            rw [← el]
            refine iteNS rfl ?_
            have hb3 := S3 _ _ hb
            refine ⟨_, rfl, _, _, _, _, _, rfl, hb3, T.clP, T.nX, rfl, v1, n, u, rfl, hv1.same S3, fun p4 H4 np4 S4 pa4 => ?_⟩
            refine ⟨_, rfl, _, _, _, _, _, rfl, S4 _ _ hb3, T.clP, T.nY, rfl, w1, m1, t1, rfl, (hw1'.same S3).same S4, fun p5 H5 np5 S5 pa5 => ?_⟩
            refine ⟨(by show 2 ≤ sizeLine; decide), fun L nL sL => ?_⟩
            have S6 : Same H5 (upd H5 L (.lst [.ref p4, .ref p5])) := same_new nL
            obtain ⟨_, ep, hp4⟩ := pa4
            cases ep
            obtain ⟨_, ep, hp5⟩ := pa5
            cases ep
            have S36 := (S3.trans S4).trans (S5.trans S6)
            have hL : upd H5 L (.lst [.ref p4, .ref p5]) L = some (.lst [.ref p4, .ref p5]) := upd_same
            have k4 := S6 _ _ (S5 _ _ hp4)
            have k5 := S6 _ _ hp5
            generalize upd H5 L (.lst [.ref p4, .ref p5]) = H6 at S36 hL k4 k5 ⊢
            have twoI : ∀ {x y : Int}, DzAll H6 [.int x, .int y] [.int x, .int y] := fun {x y} => .cons (.int _) (.cons (.int _) .nil)
            have gd := pairs_gd mn mu mm mt
            refine ⟨L, .list [pairD n u, pairD m1 t1], rfl, .lst hL (.cons (.tup k4 twoI) (.cons (.tup k5 twoI) .nil)), gd, rfl, _, rfl, D, .list [pairD n u, pairD m1 t1], rfl, .lst (S36 _ _ dy) (.cons (.tup (S36 _ _ hr1) twoI) (.cons (.tup (S36 _ _ hr2) twoI) .nil)), gd, rfl, rfl, ?_⟩
            rw [decide_eq_true rfl]
            exact q H6 (e2.trans (ExtN.of S36)) (Tabs.ext t2 S36)
          · -- what is no point's text
            refine ⟨_, rfl, D, ys, rfl, .inl (SqL.of dy), rfl, _, rfl, ?_⟩
            have ct' := ct.same S12
            obtain ⟨dd, hdd, gd⟩ := (hv.ext e2).data
            by_cases c2 : ys.length = 2
            · obtain ⟨p, q', ew⟩ : ∃ p q', wsOf v = [p, q'] := by
                have l2 := ly.trans c2
                generalize wsOf v = ws at l2
                match ws, l2 with
                | [p, q'], _ => exact ⟨p, q', rfl⟩
              rw [ew, List.map_cons, List.map_cons, List.map_nil] at pr
              obtain ⟨y1, y2, rfl, ⟨z1, e1, h1⟩, ⟨z2, e2', h2⟩⟩ : ∃ y1 y2, ys = [y1, y2] ∧ (∃ z, V.str (S p) = .str (S z) ∧ ((∃ n u, IsRat z n u ∧ PairAt H2 y1 n u) ∨ ((∀ n u, ¬ IsRat z n u) ∧ y1 = .non))) ∧ (∃ z, V.str (S q') = .str (S z) ∧ ((∃ n u, IsRat z n u ∧ PairAt H2 y2 n u) ∨ ((∀ n u, ¬ IsRat z n u) ∧ y2 = .non))) := by
                cases pr with
                | cons f1 pr =>
                  cases pr with
                  | cons f2 pr =>
                    cases pr
                    exact ⟨_, _, rfl, f1, f2⟩
              obtain rfl := str_S e1
              obtain rfl := str_S e2'
              refine iteF ?_
              refine ⟨_, rfl, D, _, rfl, rfl, SqL.of dy, ?_, ?_⟩
              · intro x hx
                simp only [List.mem_cons, List.not_mem_nil, or_false] at hx
                rcases hx with rfl | rfl
                · rcases h1 with ⟨_, _, _, b, rfl, hb⟩ | ⟨_, rfl⟩
                  · exact .inr ⟨_, _, rfl, hb⟩
                  · exact .inl rfl
                · rcases h2 with ⟨_, _, _, b, rfl, hb⟩ | ⟨_, rfl⟩
                  · exact .inr ⟨_, _, rfl, hb⟩
                  · exact .inl rfl
              · have an : [y1, y2].any noV = true := by
                  rcases h1 with ⟨n, u, i1, b, rfl, hb⟩ | ⟨_, rfl⟩
                  · rcases h2 with ⟨m1, t1, i2, b, rfl, hb⟩ | ⟨_, rfl⟩
                    · exfalso
                      rcases hv with ⟨l, rfl, hl⟩ | ⟨dd', hdd', _, nd⟩
                      · exact no l n u m1 t1 rfl (isPt_of ew i1 i2)
                      · rw [wsOf_no hdd' nd] at ew
                        cases ew
                    · rfl
                  · rfl
                rw [an]
                refine ⟨_, rfl, iteT ?_⟩
                refine ⟨_, rfl, e, a.BadText, v, _, _, true, rfl, .own _, T.c_BadText, ct', T.t_BadText, true, rfl, iteT ?_⟩
                refine ⟨_, rfl, e, a.BadText, v, rfl, T.c_BadText, ct', v, dd, 400, 6, rfl, hdd, gd, ⟨by decide, by decide⟩, _, rfl, v, dd, 400, 6, rfl, hdd, gd, ⟨by decide, by decide⟩, rfl, ?_⟩
                rw [decide_eq_true rfl]
                exact q H2 e2 t2
            · have nn : ¬ (V.int ((ys.length : Nat) : Int) = V.int 2) := fun z => by
                injection z with z
                omega
              rw [decide_eq_false nn]
              refine iteT (iteT ?_)
              refine ⟨_, rfl, e, a.BadText, v, _, _, true, rfl, .own _, T.c_BadText, ct', T.t_BadText, true, rfl, iteT ?_⟩
              refine ⟨_, rfl, e, a.BadText, v, rfl, T.c_BadText, ct', v, dd, 400, 6, rfl, hdd, gd, ⟨by decide, by decide⟩, _, rfl, v, dd, 400, 6, rfl, hdd, gd, ⟨by decide, by decide⟩, rfl, ?_⟩
              rw [decide_eq_true rfl]
              exact q H2 e2 t2
end
end My

namespace My
open PySem PySem.Spec PyProof.Rows L2 G LamX SX NumText
abbrev s__law_right : Stmt := topS 39
theorem sc__law_right : FnScope ["_law_pot_here", "_law_text", "_law_other", "_law_dot", "_law_turn", "_law_one", "_law_its", "_law_some", "_law_value"] ["_law_pot_here"] (defScope s__law_right) := ⟨rfl, rfl, rfl, by decide +kernel, rfl, by decide +kernel, by decide +kernel⟩

def spRight (P1 P2 : Addr) : Sp := fun vs H Q _ => ∃ p k, vs = [.ref p] ∧ PotAt H p k ∧ k ≤ 80000 ∧ Tabs (TT2 P1 P2) H ∧ ∀ H', Kp p H H' → PotAt H' p (k + 200) → Tabs (TT2 P1 P2) H' → Q (.bl true) H'
/-- what is asked, off the pot -/
def ValV (p : Addr) (H : Hp) (v : V) : Prop := Val (vw p H) v
theorem ValV.kp {p : Addr} {H H' : Hp} {v : V} (k : Kp p H H') (h : ValV p H v) : ValV p H' v := Val.ext (ExtN.of k) h
theorem ValV.val {p : Addr} {H : Hp} {v : V} (h : ValV p H v) : Val H v := Val.ext (ExtN.of (vw_le p H)) h
theorem valV_str {p : Addr} {H : Hp} {l : List Nat} (h : VT l) : ValV p H (.str (S l)) := .inl ⟨l, rfl, h⟩
theorem valV_d {p : Addr} {H : Hp} {v : V} {d : PyData} (h : Da (vw p H) v d) (g : Gd 400 6 d) (n : ∀ x, d ≠ .str x) : ValV p H v := .inr ⟨d, h, g, n⟩
theorem valV_odd {p : Addr} {H : Hp} {v : V} {d : PyData} (h : Da (vw p H) v d) (g : Gd 60 4 d) : ValV p H v := by
  cases h with
  | str x =>
    refine .inl ⟨x.cps.toList, by rw [S_tl], ?_, ?_⟩
    · have := g.weight
      have e : x.cps.toList.length = x.cps.size := by simp
      rw [e]
      exact this
    · rw [S_tl]
      exact g.mono (by decide) (by decide)
  | non => exact valV_d .non (g.mono (by decide) (by decide)) fun _ z => nomatch z
  | bl b => exact valV_d (.bl b) (g.mono (by decide) (by decide)) fun _ z => nomatch z
  | int i => exact valV_d (.int i) (g.mono (by decide) (by decide)) fun _ z => nomatch z
  | lst e n t => exact valV_d (.lst e n t) (g.mono (by decide) (by decide)) fun _ z => nomatch z
  | tup e t => exact valV_d (.tup e t) (g.mono (by decide) (by decide)) fun _ z => nomatch z
  | dct e t => exact valV_d (.dct e t) (g.mono (by decide) (by decide)) fun _ z => nomatch z
theorem txt_gdk {l : List Nat} {k : Nat} (h : TxtOk l k) : Gd k 0 (.str (S l)) := by
  refine ⟨?_, rfl, Nat.zero_le _, ?_⟩
  · refine List.all_eq_true.mpr fun c hc => decide_eq_true ?_
    have := h.2 c (by simpa using hc)
    exact Nat.lt_of_lt_of_le this (by decide)
  · show (S l).cps.size ≤ k
    have := h.1
    simp
    omega
theorem sql_ext {K : PySem.W.Frag} {H H' : Hp} {a : Addr} {xs : List V} (e : ExtN H H') (h : SqL K H a xs) : SqL K H' a xs := by
  rcases h with (h | ⟨o, h⟩) | h
  · exact .inl (.inl (e _ _ h fun _ z => nomatch z))
  · exact .inl (.inr ⟨o, e _ _ h fun _ z => nomatch z⟩)
  · exact .inr h
theorem Kp.over {p D : Addr} {H H' : Hp} {ys : List V} (k : Kp p H H') (n : H D = none) : Kp p H (upd H' D (.lst ys)) := fun b o e => by
  obtain ⟨nb, eb, t⟩ := vw_some e
  exact vw_at (by rw [upd_ne (ne_of_none eb n)]; exact k.at eb nb t) nb t
theorem PotAt.over {p D : Addr} {k : Nat} {H : Hp} {o : HO} (h : PotAt H p k) (n : D ≠ p) : PotAt (upd H D o) p k := by
  obtain ⟨x, y, z, e, r⟩ := h
  exact ⟨x, y, z, by rw [upd_ne n.symm]; exact e, r⟩
theorem lst_ne {H : Hp} {D b : Addr} {xs : List V} {o : HO} (hD : H D = some (.lst xs)) (h : H b = some o) (no : ∀ ys, o ≠ .lst ys) : b ≠ D := fun z => by
  rw [z, hD] at h
  exact no xs (Option.some.inj h).symm
theorem Tabs.over {T : List (Addr × Str)} {D : Addr} {H : Hp} {xs ys : List V} (t : Tabs T H) (hD : H D = some (.lst xs)) : Tabs T (upd H D (.lst ys)) := fun x hx => by
  obtain ⟨ps, h1, h2, h3⟩ := t x hx
  refine ⟨ps, by rw [upd_ne (lst_ne hD h1 fun _ z => nomatch z)]; exact h1, h2, fun ps cv hc => ?_⟩
  obtain ⟨y, e1, e2⟩ := h3 ps cv hc
  exact ⟨y, e1, by rw [upd_ne (lst_ne hD e2 fun _ => codeO_no)]; exact e2⟩
section
variable {P : Program} {w : World} {K : PySem.W.Frag} {mg : Str → Option Value} {base : Heap} {a : Ad} {P1 P2 : Addr}
theorem ok__law_right {fd : FuncData} (F : Fun K "_law_right" "_law_right" s__law_right a._law_right fd) (T : Txt K mg a)
    {fd__law_is_point_right : FuncData} (G__law_is_point_right : Fn P w K mg base CX0 11 a._law_is_point_right fd__law_is_point_right ["_law_value"] (spIsR P1 P2)) (b__law_is_point_right : Binds K fd__law_is_point_right ["_law_value"] [])
    {fd__law_is_ratio_right : FuncData} (G__law_is_ratio_right : Fn P w K mg base CX0 8 a._law_is_ratio_right fd__law_is_ratio_right ["_law_value"] (spIsR P1 P2)) (b__law_is_ratio_right : Binds K fd__law_is_ratio_right ["_law_value"] [])
    {fd__law_odd : FuncData} (G__law_odd : Fn P w K mg base CX0 3 a._law_odd fd__law_odd ["_law_pot_here"] spOdd0) (b__law_odd : Binds K fd__law_odd ["_law_pot_here"] [])
    {fd__law_take : FuncData} (G__law_take : Fn P w K mg base CX0 1 a._law_take fd__law_take ["_law_pot_here", "_law_upto"] spTake) (b__law_take : Binds K fd__law_take ["_law_pot_here", "_law_upto"] [])
    {fd__law_bent_text : FuncData} (G__law_bent_text : Fn P w K mg base CX0 3 a._law_bent_text fd__law_bent_text ["_law_pot_here", "_law_text"] spBent) (b__law_bent_text : Binds K fd__law_bent_text ["_law_pot_here", "_law_text"] [])
    {fd__law_drawn : FuncData} (G__law_drawn : Fn P w K mg base CX0 3 a._law_drawn fd__law_drawn ["_law_pot_here"] spDrawnT) (b__law_drawn : Binds K fd__law_drawn ["_law_pot_here"] []) :
    Fn P w K mg base CX0 12 a._law_right fd ["_law_pot_here"] (spRight P1 P2) := by
  refine ok F sc__law_right (fun vs H Q E h => ?len) (fun cdv A outer s H vs Q E hq hr h => ⟨_,
      (pss_cons (ps_par (i := 1) (j := 2) (by rfl) sc__law_right.nd rfl rfl (by decide) rfl rfl (pa_cons (pe_fn G__law_drawn hq (hr.mono (by omega)) (by rfl) T.g__law_drawn T.k__law_drawn b__law_drawn .nil pass0 (pa_cons (pv 0) pa_nil)) (pa_cons (pe_fn G__law_drawn hq (hr.mono (by omega)) (by rfl) T.g__law_drawn T.k__law_drawn b__law_drawn .nil pass0 (pa_cons (pv 0) pa_nil)) pa_nil)) (by rfl))
      (pss_cons (ps_set (i := 3) sc__law_right.nd rfl (Or.inl rfl) (pe_op op_add_str (pe_op op_add_str (pv 1) pe_str) (pv 2)))
      (pss_cons (ps_if (PW.pt (pw_or (pt_not (pt_val (pe_fn G__law_is_ratio_right hq (hr.mono (by omega)) (by rfl) T.g__law_is_ratio_right T.k__law_is_ratio_right b__law_is_ratio_right .nil pass0 (pa_cons (pv 1) pa_nil)))) (pw_or1 (pt_not (pt_val (pe_fn G__law_is_point_right hq (hr.mono (by omega)) (by rfl) T.g__law_is_point_right T.k__law_is_point_right b__law_is_point_right .nil pass0 (pa_cons (pv 3) pa_nil))))))) (pss_one (ps_ret pe_bl)) pss_nil)
      (pss_cons (ps_for PassesOwn.never rfl (pi_range1 (by rfl) T.n_range (pa_cons pe_int pa_nil)) (pg_name (i := 4) sc__law_right.nd rfl (Or.inl rfl)) (pss_cons (ps_par (i := 5) (j := 6) (by rfl) sc__law_right.nd rfl rfl (by decide) rfl rfl (pa_cons (pe_fn G__law_bent_text hq (hr.mono (by omega)) (by rfl) T.g__law_bent_text T.k__law_bent_text b__law_bent_text .nil pass0 (pa_cons (pv 0) (pa_cons (pv 1) pa_nil))) (pa_cons (pe_fn G__law_bent_text hq (hr.mono (by omega)) (by rfl) T.g__law_bent_text T.k__law_bent_text b__law_bent_text .nil pass0 (pa_cons (pv 0) (pa_cons (pv 3) pa_nil))) pa_nil)) (by rfl))
      (Evl.pss_cut (ps_if (pt_cmpR op_eq (pe_fn G__law_take hq (hr.mono (by omega)) (by rfl) T.g__law_take T.k__law_take b__law_take .nil pass0 (pa_cons (pv 0) (pa_cons pe_int pa_nil))) pe_int (nomark _)) (pss_one (ps_par (i := 5) (j := 6) (by rfl) sc__law_right.nd rfl rfl (by decide) rfl rfl (pa_cons (pe_fn G__law_bent_text hq (hr.mono (by omega)) (by rfl) T.g__law_bent_text T.k__law_bent_text b__law_bent_text .nil pass0 (pa_cons (pv 0) (pa_cons (pv 5) pa_nil))) (pa_cons (pe_fn G__law_bent_text hq (hr.mono (by omega)) (by rfl) T.g__law_bent_text T.k__law_bent_text b__law_bent_text .nil pass0 (pa_cons (pv 0) (pa_cons (pv 6) pa_nil))) pa_nil)) (by rfl))) pss_nil)
      (pss_one (ps_if (PW.pt (pw_or (pt_not (pt_val (pe_fn G__law_is_ratio_right hq (hr.mono (by omega)) (by rfl) T.g__law_is_ratio_right T.k__law_is_ratio_right b__law_is_ratio_right .nil pass0 (pa_cons (pv 5) pa_nil)))) (pw_or1 (pt_not (pt_val (pe_fn G__law_is_point_right hq (hr.mono (by omega)) (by rfl) T.g__law_is_point_right T.k__law_is_point_right b__law_is_point_right .nil pass0 (pa_cons (pv 6) pa_nil))))))) (pss_one (ps_ret pe_bl)) pss_nil)))))
      (pss_cons (ps_set (i := 7) sc__law_right.nd rfl (Or.inl rfl) (pe_lstS (pa_cons pe_str (pa_cons pe_str (pa_cons pe_str (pa_cons pe_str (pa_cons pe_str (pa_cons pe_str (pa_cons pe_str (pa_cons pe_str (pa_cons pe_str (pa_cons pe_str (pa_cons pe_str (pa_cons pe_str (pa_cons pe_str (pa_cons pe_str (pa_cons pe_non (pa_cons pe_int pa_nil))))))))))))))))))
      (pss_cons (ps_set (i := 7) sc__law_right.nd rfl (Or.inl rfl) (pe_op op_cat (pv 7) (pe_lstS (pa_cons (pe_tup (pa_cons pe_str pa_nil)) (pa_cons (pe_fn G__law_odd hq (hr.mono (by omega)) (by rfl) T.g__law_odd T.k__law_odd b__law_odd .nil pass0 (pa_cons (pv 0) pa_nil)) (pa_cons (pv 1) (pa_cons (pv 3) (pa_cons (pe_op op_add_str (pv 3) pe_str) (pa_cons (pe_op op_add_str (pe_op op_add_str (pv 1) pe_str) (pv 2)) (pa_cons (pe_lstS (pa_cons (pv 1) pa_nil)) pa_nil))))))))))
      (pss_one (ps_ret (pe_callB (cr_all rfl) (by rfl) T.n_all (by decide +kernel) (pa_cons (pe_lc (own := [("_law_value", 8)]) (g := gName 8) (tt := tYes) rfl sc__law_right.nd (pi_list (pv 7)) (blkOk_by (own := [("_law_value", 8)]) (N := ["_law_pot_here", "_law_text", "_law_other", "_law_dot", "_law_turn", "_law_one", "_law_its", "_law_some", "_law_value"]) (sc := defScope s__law_right) (by decide +kernel)) (fun _ _ _ _ _ => (pg_name (i := 8) sc__law_right.nd rfl (Or.inl rfl))) (fun _ _ _ _ _ => pts_nil) (fun _ _ _ _ _ => (pe_and (pe_fn G__law_is_ratio_right hq (hr.mono (by omega)) (by rfl) T.g__law_is_ratio_right T.k__law_is_ratio_right b__law_is_ratio_right .nil pass0 (pa_cons (pv 8) pa_nil)) (pe_one (pe_fn G__law_is_point_right hq (hr.mono (by omega)) (by rfl) T.g__law_is_point_right T.k__law_is_point_right b__law_is_point_right .nil pass0 (pa_cons (pv 8) pa_nil)))))) pa_nil)))))))))), ?body⟩)
  case len => obtain ⟨p, k, rfl, _⟩ := h; rfl
  case body =>
    obtain ⟨p, k, rfl, pot, hk, tabs, q⟩ := h
    refine ⟨_, rfl, p, k, rfl, pot, by omega, fun lt H1 ht g1 => ?_⟩
    refine ⟨_, rfl, p, k + 3, rfl, g1.pot, by omega, fun lo H2 ho g2 => ⟨_, _, rfl, ?_⟩⟩
    have g12 : Go p (k + 6) H H2 := g1.trans g2
    have k2 := Kp.go g12
    have t2 := Tabs.go g12 pot tabs
    have p2 := g12.pot
    have h32 : TxtOk [32] 1 := txt_of _ _ (by decide)
    have td : TxtOk (lt ++ [32] ++ lo) 41 := (ht.app h32 (show _ ≤ 21 by omega)).app ho (by omega)
    refine ⟨_, rfl, _, _, rfl, rfl, cat_len (b := [32]) ht h32 (by omega), ?_⟩
    rw [blank_S, S_cat]
    refine ⟨_, rfl, _, _, rfl, rfl, cat_len (ht.app h32 (show _ ≤ 21 by omega)) ho (by omega), ?_⟩
    rw [S_cat]
    generalize lt ++ [32] ++ lo = ld at td ⊢
    -- as they are drawn
    refine ⟨_, rfl, _, rfl, (valV_str (p := p) (H := H2) (vt_of ht (by omega))).val, t2, fun H3 e3 t3 => ⟨_, rfl, iteF ?_⟩⟩
    refine ⟨_, rfl, _, rfl, (valV_str (p := p) (H := H3) (vt_of td (by omega))).val, t3, fun H4 e4 t4 => ⟨_, rfl, iteF ?_⟩⟩
    have k4 := k2.trans ((Kp.ext e3).trans (Kp.ext e4))
    have p4 := (p2.ext e3).ext e4
    clear e3 e4 t3 t2 k2 p2 g12 g1 g2
    -- and bent
    refine ⟨10, rfl, by decide, by decide, ?_⟩
    refine for_range (lo := 0) (n := 10) (fun i σ' H' => ∃ s4 s5 s6, σ' = [some (.ref p), some (.str (S lt)), some (.str (S lo)), some (.str (S ld)), s4, s5, s6, none, none] ∧ Kp p H H' ∧ Tabs (TT2 P1 P2) H' ∧ PotAt H' p (k + 6 + 17 * i)) ⟨none, none, none, rfl, k4, t4, p4⟩ ?_ ?_
    · rintro i σ' H5 hi ⟨s4, s5, s6, rfl, k5, t5, p5⟩
      refine ⟨_, rfl, _, rfl, p, _, 41, lt, rfl, p5, by omega, ht.mono (by omega), by omega, fun l1 H6 h1 g6 => ?_⟩
      refine ⟨_, rfl, _, rfl, p, _, 41, ld, rfl, g6.pot, by omega, td, by omega, fun l2 H7 h2 g7 => ⟨_, _, rfl, ?_⟩⟩
      have k7 := k5.trans ((Kp.go g6).trans (Kp.go g7))
      have t7 := Tabs.go g7 g6.pot (Tabs.go g6 p5 t5)
      have p7 := g7.pot
      refine ⟨fun σ' H' => ∃ m1 m2, σ' = [some (.ref p), some (.str (S lt)), some (.str (S lo)), some (.str (S ld)), some (.int (0 + (i : Nat))), some (.str (S m1)), some (.str (S m2)), none, none] ∧ TxtOk m1 60 ∧ TxtOk m2 60 ∧ Kp p H H' ∧ Tabs (TT2 P1 P2) H' ∧ PotAt H' p (k + 6 + 17 * (i + 1)), ?_, ?_⟩
      · refine ⟨_, rfl, p, 3, _, rfl, p7, by omega, by decide, by decide, fun d H8 a8 b8 g8 => ⟨rfl, _, rfl, ite2 (fun c => ?_) (fun c => ?_)⟩⟩
        · refine ⟨_, rfl, _, rfl, p, _, 43, l1, rfl, g8.pot, by omega, h1.mono (by omega), by omega, fun l3 H9 h3 g9 => ?_⟩
          refine ⟨_, rfl, _, rfl, p, _, 43, l2, rfl, g9.pot, by omega, h2.mono (by omega), by omega, fun l4 H10 h4 g10 => ⟨_, _, rfl, ?_⟩⟩
          exact ⟨l3, l4, rfl, h3.mono (by omega), h4.mono (by omega), k7.trans ((Kp.go g8).trans ((Kp.go g9).trans (Kp.go g10))), Tabs.go g10 g9.pot (Tabs.go g9 g8.pot (Tabs.go g8 p7 t7)), g10.pot.mono (by omega)⟩
        · exact ⟨l1, l2, rfl, h1.mono (by omega), h2.mono (by omega), k7.trans (Kp.go g8), Tabs.go g8 p7 t7, g8.pot.mono (by omega)⟩
      · rintro σ' H8 ⟨m1, m2, rfl, h1, h2, k8, t8, p8⟩
        refine ⟨_, rfl, _, rfl, (valV_str (p := p) (H := H8) (vt_of h1 (by omega))).val, t8, fun H9 e9 t9 => ⟨_, rfl, iteF ?_⟩⟩
        refine ⟨_, rfl, _, rfl, (valV_str (p := p) (H := H9) (vt_of h2 (by omega))).val, t9, fun H10 e10 t10 => ⟨_, rfl, iteF ?_⟩⟩
        exact ⟨_, _, _, rfl, k8.trans ((Kp.ext e9).trans (Kp.ext e10)), t10, (p8.ext e9).ext e10⟩
    · rintro σ' H5 ⟨s4, s5, s6, rfl, k5, t5, p5⟩
      refine ⟨(by show 16 ≤ sizeLine; decide), fun l1 n1 sl1 => ?_⟩
      have nl1 : l1 ≠ p := fun z => p5.has (by rw [← z]; exact n1)
      have hl1 : upd H5 l1 (.lst [.str "", .str "-", .str "/", .str "-0", .str "0/1", .str "0/2", .str "2/4", .str "-2/4", .str "1/-2", .str "1/0", .str "01", .str "--1", .str "1/2/3", .str "3/1", .non, .int 3]) l1 = some (.lst [.str "", .str "-", .str "/", .str "-0", .str "0/1", .str "0/2", .str "2/4", .str "-2/4", .str "1/-2", .str "1/0", .str "01", .str "--1", .str "1/2/3", .str "3/1", .non, .int 3]) := upd_same
      have S1 : Same H5 (upd H5 l1 (.lst [.str "", .str "-", .str "/", .str "-0", .str "0/1", .str "0/2", .str "2/4", .str "-2/4", .str "1/-2", .str "1/0", .str "01", .str "--1", .str "1/2/3", .str "3/1", .non, .int 3])) := same_new n1
      generalize upd H5 l1 (.lst [.str "", .str "-", .str "/", .str "-0", .str "0/1", .str "0/2", .str "2/4", .str "-2/4", .str "1/-2", .str "1/0", .str "01", .str "--1", .str "1/2/3", .str "3/1", .non, .int 3]) = H6 at hl1 S1 ⊢
      have p6 := p5.same S1
      have t6 := Tabs.ext t5 S1
      have k6 := k5.trans (Kp.same S1)
      refine ⟨_, rfl, (by show 1 ≤ sizeLine; decide), fun t2 nt2 => ?_⟩
      have ntp : t2 ≠ p := fun z => p6.has (by rw [← z]; exact nt2)
      have ht2 : upd H6 t2 (.tup [.str "1"]) t2 = some (.tup [.str "1"]) := upd_same
      have S2 : Same H6 (upd H6 t2 (.tup [.str "1"])) := same_new nt2
      generalize upd H6 t2 (.tup [.str "1"]) = H7 at ht2 S2 ⊢
      have p7 := p6.same S2
      have t7 := Tabs.ext t6 S2
      have k7 := k6.trans (Kp.same S2)
      have hl7 := S2 _ _ hl1
      refine ⟨_, rfl, p, _, rfl, p7, by omega, fun vo H8 io g8 => ?_⟩
      have p8 := g8.pot
      have t8 := Tabs.go g8 p7 t7
      have k8 := k7.trans (Kp.go g8)
      have hl8 := g8.at hl7 nl1
      have ht8 := g8.at ht2 ntp
      have vo8 : ValV p H8 vo := by
        obtain ⟨d, hd, gd⟩ := io (fun b => b = p) fun b e => by rw [e]; exact p7.has
        exact valV_odd (da_strip hd) gd.1
      have hs1 : TxtOk [32, 49] 2 := txt_of _ _ (by decide)
      have hs2 : TxtOk [32, 32] 2 := txt_of _ _ (by decide)
      have ta : TxtOk (ld ++ [32, 49]) 43 := td.app hs1 (by omega)
      have tb : TxtOk (lt ++ [32, 32]) 22 := ht.app hs2 (by omega)
      have tc : TxtOk (lt ++ [32, 32] ++ lo) 42 := tb.app ho (by omega)
      refine ⟨_, rfl, _, rfl, _, rfl, _, _, rfl, rfl, cat_len (b := [32, 49]) td hs1 (by omega), ?_⟩
      rw [show Str.ofString " 1" = S [32, 49] from rfl, S_cat]
      refine ⟨_, rfl, _, _, rfl, rfl, cat_len (b := [32, 32]) ht hs2 (by omega), ?_⟩
      rw [show Str.ofString "  " = S [32, 32] from rfl, S_cat]
      refine ⟨_, rfl, _, _, rfl, rfl, cat_len tb ho (by omega), ?_⟩
      rw [S_cat]
      generalize ld ++ [32, 49] = la at ta ⊢
      generalize lt ++ [32, 32] ++ lo = lc at tc ⊢
      refine ⟨_, rfl, (by show 1 ≤ sizeLine; decide), fun l3 n3 sl3 => ?_⟩
      have nl3 : l3 ≠ p := fun z => p8.has (by rw [← z]; exact n3)
      have hl3 : upd H8 l3 (.lst [.str (S lt)]) l3 = some (.lst [.str (S lt)]) := upd_same
      have S3 : Same H8 (upd H8 l3 (.lst [.str (S lt)])) := same_new n3
      generalize upd H8 l3 (.lst [.str (S lt)]) = H9 at hl3 S3 ⊢
      have p9 := p8.same S3
      have t9 := Tabs.ext t8 S3
      have k9 := k8.trans (Kp.same S3)
      refine ⟨(by show 7 ≤ sizeLine; decide), fun l4 n4 sl4 => ?_⟩
      have hl4 : upd H9 l4 (.lst [.ref t2, vo, .str (S lt), .str (S ld), .str (S la), .str (S lc), .ref l3]) l4 = some (.lst [.ref t2, vo, .str (S lt), .str (S ld), .str (S la), .str (S lc), .ref l3]) := upd_same
      have S4 : Same H9 (upd H9 l4 (.lst [.ref t2, vo, .str (S lt), .str (S ld), .str (S la), .str (S lc), .ref l3])) := same_new n4
      generalize upd H9 l4 (.lst [.ref t2, vo, .str (S lt), .str (S ld), .str (S la), .str (S lc), .ref l3]) = H10 at hl4 S4 ⊢
      refine ⟨_, _, _, _, rfl, rfl, S4 _ _ (S3 _ _ hl8), hl4, (by show 16 + 7 ≤ sizeLine; decide), fun l5 n5 => ?_⟩
      have p10 := p9.same S4
      have nl5 : l5 ≠ p := fun z => p10.has (by rw [← z]; exact n5)
      have S5 : ∀ o, Same H10 (upd H10 l5 o) := fun o => same_new n5
      have all : ∀ x ∈ [.str "", .str "-", .str "/", .str "-0", .str "0/1", .str "0/2", .str "2/4", .str "-2/4", .str "1/-2", .str "1/0", .str "01", .str "--1", .str "1/2/3", .str "3/1", .non, .int 3] ++ [.ref t2, vo, .str (S lt), .str (S ld), .str (S la), .str (S lc), .ref l3], ∀ o, ValV p (upd H10 l5 o) x := by
        have con : ∀ {H' : Hp} {v : V} {d : PyData}, Da (vw p H') v d → gdB 60 4 d = true → ValV p H' v := fun h g => valV_odd h (gdB_ok g)
        intro x hx o
        have S8 : Same H8 (upd H10 l5 o) := S3.trans (S4.trans (S5 o))
        simp only [List.cons_append, List.nil_append, List.mem_cons, List.not_mem_nil, or_false] at hx
        rcases hx with rfl | rfl | rfl | rfl | rfl | rfl | rfl | rfl | rfl | rfl | rfl | rfl | rfl | rfl | rfl | rfl | rfl | rfl | rfl | rfl | rfl | rfl | rfl
        all_goals first
          | exact con (.str _) (by decide +kernel)
          | exact con .non (by decide +kernel)
          | exact con (.int _) (by decide +kernel)
          | exact valV_str (vt_of ht (by omega))
          | exact valV_str (vt_of td (by omega))
          | exact valV_str (vt_of ta (by omega))
          | exact valV_str (vt_of tc (by omega))
          | exact vo8.kp (Kp.same S8)
          | exact con (.tup (vw_at (S8 _ _ ht8) ntp fun _ z => nomatch z) (.cons (.str _) .nil)) (by decide +kernel)
          | exact valV_d (.lst (vw_at ((S4.trans (S5 o)) _ _ hl3) nl3 fun _ z => nomatch z) sl3 (.cons (.str _) .nil)) ((gd_lst (n := 20) (k := 0) (m := 1) (N := 21) (fun d hd => by rw [List.mem_singleton.mp hd]; exact txt_gdk ht) (by show 1 ≤ 1; decide) (by decide)).mono (by decide) (by decide)) fun _ z => nomatch z
      generalize hX : [.str "", .str "-", .str "/", .str "-0", .str "0/1", .str "0/2", .str "2/4", .str "-2/4", .str "1/-2", .str "1/0", .str "01", .str "--1", .str "1/2/3", .str "3/1", .non, .int 3] ++ [.ref t2, vo, .str (S lt), .str (S ld), .str (S la), .str (S lc), .ref l3] = items at all ⊢
      have li : items.length = 23 := by rw [← hX]; rfl
      have hl5 : upd H10 l5 (.lst items) l5 = some (.lst items) := upd_same
      have all := fun x hx => all x hx (.lst items)
      have p11 := p10.same (S5 (.lst items))
      have t11 := Tabs.ext t9 (S4.trans (S5 (.lst items)))
      have k11 := k9.trans (Kp.same (S4.trans (S5 (.lst items))))
      generalize upd H10 l5 (.lst items) = H11 at hl5 all p11 t11 k11 ⊢
      refine ⟨_, rfl, l5, rfl, ⟨_, SqL.of hl5⟩, fun D hD => ?_⟩
      have nD : D ≠ p := fun z => p11.has (by rw [← z]; exact hD)
      refine lc_list (xs := items) (fun i H' => Kp p H11 H' ∧ H' D = some (.lst ((List.replicate i true).map V.bl)) ∧ PotAt H' p (k + 200) ∧ Tabs (TT2 P1 P2) H')
        ⟨Kp.same (same_new hD), upd_same, (p11.same (same_new hD)).mono (by omega), Tabs.ext t11 (same_new hD)⟩ ?_ ?_ ?_
      · rintro i H' hi ⟨kp, _⟩
        exact SqL.of (kp.at hl5 nl5 fun _ z => nomatch z)
      · rintro i x H' hx ⟨kp, d3, pp, tt⟩
        have hi : i < 23 := by rw [← li]; exact (List.getElem?_eq_some_iff.mp hx).1
        have vx := all x (List.mem_of_getElem? hx)
        refine ⟨rfl, ?_⟩
        refine ⟨_, rfl, x, rfl, (vx.kp kp).val, tt, fun Ha ea ta => ⟨_, rfl, iteT ?_⟩⟩
        have ka := kp.trans (Kp.ext ea)
        refine ⟨_, rfl, x, rfl, (vx.kp ka).val, ta, fun Hb eb tb => ?_⟩
        have kb := ka.trans (Kp.ext eb)
        have db := eb _ _ (ea _ _ d3 fun _ z => nomatch z) fun _ z => nomatch z
        refine ⟨_, db, by rw [List.length_map, List.length_replicate, sizeLine_eq]; omega, kb.over hD, ?_, ((pp.ext ea).ext eb).over nD, Tabs.over tb db⟩
        rw [upd_same, List.replicate_succ', List.map_append]
        rfl
      · rintro H' ⟨kp, d3, pp, tt⟩
        rw [li] at d3
        exact ⟨D, List.replicate 23 true, rfl, SqL.of d3, q H' (k11.trans kp) pp tt⟩
end
end My

namespace My
open PySem PySem.Spec PyProof.Rows L2 G LamX SX NumText
abbrev s_law : Stmt := topS 40
theorem sc_law : FnScope ["_law_script", "_law_place", "_law_pot_here", "_law_turn"] ["_law_script"] (defScope s_law) := ⟨rfl, rfl, rfl, by decide +kernel, rfl, by decide +kernel, by decide +kernel⟩

def spLaw (K : PySem.W.Frag) (P1 P2 : Addr) : Sp := fun vs H Q _ => ∃ (s : Addr) (ns : List Int), vs = [.ref s] ∧ SqL K H s (ns.map V.int) ∧ ns.length ≤ 63 ∧ Tabs (TT2 P1 P2) H ∧ ∀ H', Q (.bl true) H'
section
variable {P : Program} {w : World} {K : PySem.W.Frag} {mg : Str → Option Value} {base : Heap} {a : Ad} {P1 P2 : Addr}
theorem ok_law {fd : FuncData} (F : Fun K "law" "law" s_law a.law fd) (T : Txt K mg a)
    {fd__law_places : FuncData} (G__law_places : Fn P w K mg base CX0 1 a._law_places fd__law_places ["_law_script", "_law_most"] (spPlaces K)) (b__law_places : Binds K fd__law_places ["_law_script", "_law_most"] [])
    {fd__law_right : FuncData} (G__law_right : Fn P w K mg base CX0 12 a._law_right fd__law_right ["_law_pot_here"] (spRight P1 P2)) (b__law_right : Binds K fd__law_right ["_law_pot_here"] [])
    {fd__law_pot : FuncData} (G__law_pot : Fn P w K mg base CX0 1 a._law_pot fd__law_pot ["_law_script", "_law_k"] (spPot K)) (b__law_pot : Binds K fd__law_pot ["_law_script", "_law_k"] []) :
    Fn P w K mg base CX0 13 a.law fd ["_law_script"] (spLaw K P1 P2) := by
  refine ok F sc_law (fun vs H Q E h => ?len) (fun cdv A outer s H vs Q E hq hr h => ⟨_,
      (pss_cons (ps_for PassesOwn.never rfl (pi_list (pe_fn G__law_places hq (hr.mono (by omega)) (by rfl) T.g__law_places T.k__law_places b__law_places .nil pass0 (pa_cons (pv 0) (pa_cons pe_int pa_nil)))) (pg_name (i := 1) sc_law.nd rfl (Or.inl rfl)) (pss_cons (ps_set (i := 2) sc_law.nd rfl (Or.inr rfl) (pe_fn G__law_pot hq (hr.mono (by omega)) (by rfl) T.g__law_pot T.k__law_pot b__law_pot .nil pass0 (pa_cons (pv 0) (pa_cons (pv 1) pa_nil))))
      (pss_one (ps_if (pt_not (pt_val (pe_callB (cr_all rfl) (by rfl) T.n_all (by decide +kernel) (pa_cons (pe_lc (own := [("_law_turn", 3)]) (g := gName 3) (tt := tYes) rfl sc_law.nd (pi_range1 (by rfl) T.n_range (pa_cons pe_int pa_nil)) (blkOk_by (own := [("_law_turn", 3)]) (N := ["_law_script", "_law_place", "_law_pot_here", "_law_turn"]) (sc := defScope s_law) (by decide +kernel)) (fun _ _ _ _ _ => (pg_name (i := 3) sc_law.nd rfl (Or.inl rfl))) (fun _ _ _ _ _ => pts_nil) (fun _ _ _ _ _ => (pe_fn G__law_right hq (hr.mono (by omega)) (by rfl) T.g__law_right T.k__law_right b__law_right .nil pass0 (pa_cons (pv 2) pa_nil)))) pa_nil)))) (pss_one (ps_ret pe_bl)) pss_nil))))
      (pss_one (ps_ret pe_bl))), ?body⟩)
  case len => obtain ⟨s, ns, rfl, _⟩ := h; rfl
  case body =>
    obtain ⟨s, ns, rfl, hs, hl, tabs, q⟩ := h
    refine ⟨_, rfl, s, ns, 4, rfl, hs, hl, by decide, by decide, fun l n H1 nl S1 hn hl1 => ?_⟩
    have ln : (rgV 0 n).length = n := by rw [rgV_length]; omega
    refine ⟨l, rfl, ⟨_, SqL.of hl1⟩, for_it (walk_list (xs := rgV 0 n)) (fun i σ H' => ∃ s1 s2 s3, σ = [some (.ref s), s1, s2, s3] ∧ ExtN H1 H' ∧ Tabs (TT2 P1 P2) H') ⟨none, none, none, rfl, ExtN.refl _, Tabs.ext tabs S1⟩ ?_ ?_ ?_⟩
    · rintro i σ H' _ ⟨s1, s2, s3, _, e, _⟩
      exact sql_ext e (SqL.of hl1)
    · rintro i x σ H' H'' hi ⟨s1, s2, s3, rfl, e, tb⟩ ⟨rfl, hx⟩
      obtain ⟨hi1, hi2⟩ := List.getElem?_eq_some_iff.mp hx
      obtain rfl : V.int (0 + (i : Nat)) = x := by
        have z := hx
        unfold rgV at z
        rw [List.getElem?_map, List.getElem?_range (by omega)] at z
        exact Option.some.inj z
      refine ⟨_, rfl, _, rfl, s, ns, 0 + (i : Nat), rfl, sql_ext e (S1.seq hs), hl, by omega, by omega, fun p H2 np S2 pot => ?_⟩
      refine ⟨4, rfl, by decide, by decide, fun D hD => ?_⟩
      have nD : D ≠ p := fun z => pot.has (by rw [← z]; exact hD)
      refine lc_range (fun i H3 => Kp p H2 H3 ∧ H3 D = some (.lst ((List.replicate i true).map V.bl)) ∧ PotAt H3 p (200 * i) ∧ Tabs (TT2 P1 P2) H3)
        ⟨Kp.same (same_new hD), upd_same, pot.same (same_new hD), Tabs.ext (Tabs.ext tb S2) (same_new hD)⟩ ?_ ?_
      · rintro j H3 hj ⟨k3, d3, p3, t3⟩
        refine ⟨rfl, ?_⟩
        refine ⟨_, rfl, p, 200 * j, rfl, p3, by omega, t3, fun H4 k4 p4 t4 => ?_⟩
        have d4 := k4.at d3 nD fun _ z => nomatch z
        refine ⟨_, d4, by rw [List.length_map, List.length_replicate, sizeLine_eq]; omega, (k3.trans k4).over hD, ?_, (p4.mono (by omega)).over nD, Tabs.over t4 d4⟩
        rw [upd_same, List.replicate_succ', List.map_append]; rfl
      · rintro H3 ⟨k3, d3, p3, t3⟩
        refine ⟨D, _, rfl, SqL.of d3, _, rfl, ?_⟩
        refine iteF ⟨_, _, _, rfl, fun b o eb t => ?_, t3⟩
        have eb' := S2 _ _ (e _ _ eb t)
        refine k3.at eb' (fun z => ?_) t
        have ez := e _ _ eb t
        rw [z, np] at ez
        cases ez
    · rintro σ H' ⟨s1, s2, s3, rfl, e, tb⟩
      exact q _
end
end My

namespace My
open PySem PySem.Spec PyProof.Rows L2 G LamX SX NumText
abbrev s_init : Stmt := inClass (topS 3) 0
theorem sc_init : FnScope ["self", "value"] ["self", "value"] (defScope s_init) := ⟨rfl, rfl, rfl, by decide +kernel, rfl, by decide +kernel, by decide +kernel⟩
theorem ok_init {P : Program} {w : World} {K : PySem.W.Frag} {mg : Str → Option Value} {base : Heap} {f : Addr} {fd : FuncData} (F : Fun K "__init__" "AboutError.__init__" s_init f fd) : FnOk P w K mg base CX0 1 f fd ["self", "value"] (spErrInit K) := by
  refine F.ok sc_init (fun vs H Q E h => ?_) (fun cdv A outer s H vs Q E hr h => ?_)
  · obtain ⟨p, C, v, rfl, _⟩ := h
    rfl
  · obtain ⟨p, C, v, rfl, T, nv, hp, q⟩ := h
    exact ⟨_, pss_one (ps_ost (pv 0) (pv 1)), _, rfl, _, rfl, p, C, rfl, T, nv, .inl ⟨hp, fun dx h1 h2 => q dx h1 h2⟩⟩

theorem all_mk {P : Program} {w : World} {K : PySem.W.Frag} {h : Heap} {mg : Str → Option Value} {fa : Addr} (X : K.In h) (G : h.Ns mainGlobals mg) (hfa : mg "law" = some (.ref fa))
    (bare__law_is_ratio_right : Bare mg h "_law_is_ratio_right")
    (bare__law_is_point_right : Bare mg h "_law_is_point_right")
    {tP tF : Tok}
    {C_AboutError C_BadText C_Ratio C_Point f_init : Addr}
    {nm_AboutError q_AboutError : Str} {N_AboutError : Addr} {bs_AboutError : List Value} {sn_AboutError : List Str} {sub_AboutError : List Value} {ab_AboutError : Bool} {col_AboutError : Option Bool} {dd_AboutError : Option Addr} {m0_AboutError m1_AboutError m2_AboutError m3_AboutError m5_AboutError : Option Value}
    {nm_BadText q_BadText : Str} {N_BadText : Addr} {bs_BadText : List Value} {sn_BadText : List Str} {sub_BadText : List Value} {ab_BadText : Bool} {col_BadText : Option Bool} {dd_BadText : Option Addr} {m0_BadText m1_BadText m2_BadText m3_BadText m5_BadText : Option Value}
    {od_init an_init : Option Addr} {sl_init : Array (Option Value)} {oc_init kV_init dc_init pm_init cd_init ct_init : Value}
    {f__law_told : Addr}
    {od__law_told an__law_told : Option Addr} {sl__law_told : Array (Option Value)} {oc__law_told kV__law_told dc__law_told pm__law_told cd__law_told ct__law_told : Value}
    {f__law_pot : Addr}
    {od__law_pot an__law_pot : Option Addr} {sl__law_pot : Array (Option Value)} {oc__law_pot kV__law_pot dc__law_pot pm__law_pot cd__law_pot ct__law_pot : Value}
    {f__law_take : Addr}
    {od__law_take an__law_take : Option Addr} {sl__law_take : Array (Option Value)} {oc__law_take kV__law_take dc__law_take pm__law_take cd__law_take ct__law_take : Value}
    {f__law_of : Addr}
    {od__law_of an__law_of : Option Addr} {sl__law_of : Array (Option Value)} {oc__law_of kV__law_of dc__law_of pm__law_of cd__law_of ct__law_of : Value}
    {f__law_places : Addr}
    {od__law_places an__law_places : Option Addr} {sl__law_places : Array (Option Value)} {oc__law_places kV__law_places dc__law_places pm__law_places cd__law_places ct__law_places : Value}
    {f_is_integer : Addr}
    {od_is_integer an_is_integer : Option Addr} {sl_is_integer : Array (Option Value)} {oc_is_integer kV_is_integer dc_is_integer pm_is_integer cd_is_integer ct_is_integer : Value}
    {f_is_number : Addr}
    {od_is_number an_is_number : Option Addr} {sl_is_number : Array (Option Value)} {oc_is_number kV_is_number dc_is_number pm_is_number cd_is_number ct_is_number : Value}
    {f_Ratio___init__ : Addr}
    {od_Ratio___init__ an_Ratio___init__ : Option Addr} {sl_Ratio___init__ : Array (Option Value)} {oc_Ratio___init__ kV_Ratio___init__ dc_Ratio___init__ pm_Ratio___init__ cd_Ratio___init__ ct_Ratio___init__ : Value}
    {dT_Ratio___init__ : Addr} {cT_Ratio___init__ : Value} {eT_Ratio___init__ : Option Addr} {its_Ratio___init__ : List Value} {mT_Ratio___init__ : Nat} {sT_Ratio___init__ : Array (Option Value)}
    {f_as_ratio : Addr}
    {od_as_ratio an_as_ratio : Option Addr} {sl_as_ratio : Array (Option Value)} {oc_as_ratio kV_as_ratio dc_as_ratio pm_as_ratio cd_as_ratio ct_as_ratio : Value}
    {f__law_common : Addr}
    {od__law_common an__law_common : Option Addr} {sl__law_common : Array (Option Value)} {oc__law_common kV__law_common dc__law_common pm__law_common cd__law_common ct__law_common : Value}
    {f__law_pair : Addr}
    {od__law_pair an__law_pair : Option Addr} {sl__law_pair : Array (Option Value)} {oc__law_pair kV__law_pair dc__law_pair pm__law_pair cd__law_pair ct__law_pair : Value}
    {f__law_pair_of : Addr}
    {od__law_pair_of an__law_pair_of : Option Addr} {sl__law_pair_of : Array (Option Value)} {oc__law_pair_of kV__law_pair_of dc__law_pair_of pm__law_pair_of cd__law_pair_of ct__law_pair_of : Value}
    {f__law_odd : Addr}
    {od__law_odd an__law_odd : Option Addr} {sl__law_odd : Array (Option Value)} {oc__law_odd kV__law_odd dc__law_odd pm__law_odd cd__law_odd ct__law_odd : Value}
    {f_written : Addr}
    {od_written an_written : Option Addr} {sl_written : Array (Option Value)} {oc_written kV_written dc_written pm_written cd_written ct_written : Value}
    {f__has_figures_alone : Addr}
    {od__has_figures_alone an__has_figures_alone : Option Addr} {sl__has_figures_alone : Array (Option Value)} {oc__has_figures_alone kV__has_figures_alone dc__has_figures_alone pm__has_figures_alone cd__has_figures_alone ct__has_figures_alone : Value}
    {f__worth : Addr}
    {od__worth an__worth : Option Addr} {sl__worth : Array (Option Value)} {oc__worth kV__worth dc__worth pm__worth cd__worth ct__worth : Value}
    {f_Ratio_text : Addr}
    {pr_Ratio : Addr} {rs_Ratio : List Value}
    {od_Ratio_text an_Ratio_text : Option Addr} {sl_Ratio_text : Array (Option Value)} {oc_Ratio_text kV_Ratio_text dc_Ratio_text pm_Ratio_text cd_Ratio_text ct_Ratio_text : Value}
    {f_read_ratio : Addr}
    {od_read_ratio an_read_ratio : Option Addr} {sl_read_ratio : Array (Option Value)} {oc_read_ratio kV_read_ratio dc_read_ratio pm_read_ratio cd_read_ratio ct_read_ratio : Value}
    {f_Ratio_of : Addr}
    {ps_Ratio : Addr} {ss_Ratio : List Value}
    {od_Ratio_of an_Ratio_of : Option Addr} {sl_Ratio_of : Array (Option Value)} {oc_Ratio_of kV_Ratio_of dc_Ratio_of pm_Ratio_of cd_Ratio_of ct_Ratio_of : Value}
    {f_Point___init__ : Addr}
    {od_Point___init__ an_Point___init__ : Option Addr} {sl_Point___init__ : Array (Option Value)} {oc_Point___init__ kV_Point___init__ dc_Point___init__ pm_Point___init__ cd_Point___init__ ct_Point___init__ : Value}
    {f_Point_text : Addr}
    {pr_Point : Addr} {rs_Point : List Value}
    {od_Point_text an_Point_text : Option Addr} {sl_Point_text : Array (Option Value)} {oc_Point_text kV_Point_text dc_Point_text pm_Point_text cd_Point_text ct_Point_text : Value}
    {f_read_point : Addr}
    {od_read_point an_read_point : Option Addr} {sl_read_point : Array (Option Value)} {oc_read_point kV_read_point dc_read_point pm_read_point cd_read_point ct_read_point : Value}
    {f_Point_of : Addr}
    {ps_Point : Addr} {ss_Point : List Value}
    {od_Point_of an_Point_of : Option Addr} {sl_Point_of : Array (Option Value)} {oc_Point_of kV_Point_of dc_Point_of pm_Point_of cd_Point_of ct_Point_of : Value}
    {f__law_ratio_text : Addr}
    {od__law_ratio_text an__law_ratio_text : Option Addr} {sl__law_ratio_text : Array (Option Value)} {oc__law_ratio_text kV__law_ratio_text dc__law_ratio_text pm__law_ratio_text cd__law_ratio_text ct__law_ratio_text : Value}
    {f__law_figures : Addr}
    {od__law_figures an__law_figures : Option Addr} {sl__law_figures : Array (Option Value)} {oc__law_figures kV__law_figures dc__law_figures pm__law_figures cd__law_figures ct__law_figures : Value}
    {f__law_read : Addr}
    {od__law_read an__law_read : Option Addr} {sl__law_read : Array (Option Value)} {oc__law_read kV__law_read dc__law_read pm__law_read cd__law_read ct__law_read : Value}
    {f__law_drawn : Addr}
    {od__law_drawn an__law_drawn : Option Addr} {sl__law_drawn : Array (Option Value)} {oc__law_drawn kV__law_drawn dc__law_drawn pm__law_drawn cd__law_drawn ct__law_drawn : Value}
    {f__law_bent_text : Addr}
    {od__law_bent_text an__law_bent_text : Option Addr} {sl__law_bent_text : Array (Option Value)} {oc__law_bent_text kV__law_bent_text dc__law_bent_text pm__law_bent_text cd__law_bent_text ct__law_bent_text : Value}
    {f__law_is_ratio_right : Addr}
    {od__law_is_ratio_right an__law_is_ratio_right : Option Addr} {sl__law_is_ratio_right : Array (Option Value)} {oc__law_is_ratio_right kV__law_is_ratio_right dc__law_is_ratio_right pm__law_is_ratio_right  ct__law_is_ratio_right : Value}
    {cA__law_is_ratio_right Pt__law_is_ratio_right : Addr} {eC__law_is_ratio_right : Value} {dC__law_is_ratio_right : Option Addr} {vC__law_is_ratio_right : Array Value} {sC__law_is_ratio_right : Array (Option Value)}
    {f__law_is_point_right : Addr}
    {od__law_is_point_right an__law_is_point_right : Option Addr} {sl__law_is_point_right : Array (Option Value)} {oc__law_is_point_right kV__law_is_point_right dc__law_is_point_right pm__law_is_point_right  ct__law_is_point_right : Value}
    {cA__law_is_point_right Pt__law_is_point_right : Addr} {eC__law_is_point_right : Value} {dC__law_is_point_right : Option Addr} {vC__law_is_point_right : Array Value} {sC__law_is_point_right : Array (Option Value)}
    {f__law_right : Addr}
    {od__law_right an__law_right : Option Addr} {sl__law_right : Array (Option Value)} {oc__law_right kV__law_right dc__law_right pm__law_right cd__law_right ct__law_right : Value}
    {f_law : Addr}
    {od_law an_law : Option Addr} {sl_law : Array (Option Value)} {oc_law kV_law dc_law pm_law cd_law ct_law : Value}
    (n_abs : PySem.W.nsIn K mainGlobals "abs" = some none)
    (n_all : PySem.W.nsIn K mainGlobals "all" = some none)
    (n_any : PySem.W.nsIn K mainGlobals "any" = some none)
    (n_bool : PySem.W.nsIn K mainGlobals "bool" = some none)
    (n_int : PySem.W.nsIn K mainGlobals "int" = some none)
    (n_isinstance : PySem.W.nsIn K mainGlobals "isinstance" = some none)
    (n_len : PySem.W.nsIn K mainGlobals "len" = some none)
    (n_list : PySem.W.nsIn K mainGlobals "list" = some none)
    (n_max : PySem.W.nsIn K mainGlobals "max" = some none)
    (n_min : PySem.W.nsIn K mainGlobals "min" = some none)
    (n_range : PySem.W.nsIn K mainGlobals "range" = some none)
    (n_repr : PySem.W.nsIn K mainGlobals "repr" = some none)
    (n_divmod : PySem.W.nsIn K mainGlobals "divmod" = some none)
    (n_str : PySem.W.nsIn K mainGlobals "str" = some none)
    (gP : PySem.W.nsIn K mainGlobals "_PART" = some (some (.int 10000000000000000000000000000000000000000000000000000000000000000 tP)))
    (gF : PySem.W.nsIn K mainGlobals "_FIGURES" = some (some (.int 64 tF)))
    (gG : PySem.W.nsIn K mainGlobals "gcd" = some (some (.builtin "math.gcd")))
    (g_AboutError : PySem.W.nsIn K mainGlobals "AboutError" = some (some (.ref C_AboutError)))
    (g_BadText : PySem.W.nsIn K mainGlobals "BadText" = some (some (.ref C_BadText)))
    (x_AboutError : K.lookup C_AboutError = some (excClassObj nm_AboutError q_AboutError C_AboutError N_AboutError bs_AboutError [.type "ValueError", .type "Exception", .type "BaseException", .type "object"] true sn_AboutError sub_AboutError ab_AboutError col_AboutError dd_AboutError m0_AboutError m1_AboutError m2_AboutError m3_AboutError m5_AboutError "ValueError.__new__"))
    (x_BadText : K.lookup C_BadText = some (excClassObj nm_BadText q_BadText C_BadText N_BadText bs_BadText (.ref C_AboutError :: [.type "ValueError", .type "Exception", .type "BaseException", .type "object"]) true sn_BadText sub_BadText ab_BadText col_BadText dd_BadText m0_BadText m1_BadText m2_BadText m3_BadText m5_BadText "ValueError.__new__"))
    (i0 : PySem.W.findIn K (.ref C_AboutError) "__init__" = some (some (.ref f_init)))
    (tI : PySem.W.typeIn K (.ref f_init) = some (.type "function"))
    (sp : PySem.W.specialIn K (.builtin "object.__class__") "__get__" = some (some (.builtin "getset_descriptor.__get__")))
    (tk : PySem.W.takesIn K (.builtin "object.__class__") = some true)
    (eb : ([C_AboutError, C_BadText].all fun C => ecB K f_init C) = true)
    (g_Ratio : PySem.W.nsIn K mainGlobals "Ratio" = some (some (.ref C_Ratio)))
    (g_Point : PySem.W.nsIn K mainGlobals "Point" = some (some (.ref C_Point)))
    (l_init : K.lookup f_init = some ⟨oc_init, od_init, .func (PySem.W.fnOf "__init__" "AboutError.__init__" (defArgs s_init) (defBody s_init) (defScope s_init) .none kV_init dc_init pm_init an_init cd_init ct_init), sl_init⟩)
    (c_init : PySem.W.codeIn K cd_init "AboutError.__init__" = true)
    (k_init : PySem.W.keepIn K (.ref f_init) = true)
    (g__law_told : PySem.W.nsIn K mainGlobals "_law_told" = some (some (.ref f__law_told)))
    (l__law_told : K.lookup f__law_told = some ⟨oc__law_told, od__law_told, .func (PySem.W.fnOf "_law_told" "_law_told" (defArgs s__law_told) (defBody s__law_told) (defScope s__law_told) .none kV__law_told dc__law_told pm__law_told an__law_told cd__law_told ct__law_told), sl__law_told⟩)
    (c__law_told : PySem.W.codeIn K cd__law_told "_law_told" = true)
    (k__law_told : PySem.W.keepIn K (.ref f__law_told) = true)
    (g__law_pot : PySem.W.nsIn K mainGlobals "_law_pot" = some (some (.ref f__law_pot)))
    (l__law_pot : K.lookup f__law_pot = some ⟨oc__law_pot, od__law_pot, .func (PySem.W.fnOf "_law_pot" "_law_pot" (defArgs s__law_pot) (defBody s__law_pot) (defScope s__law_pot) .none kV__law_pot dc__law_pot pm__law_pot an__law_pot cd__law_pot ct__law_pot), sl__law_pot⟩)
    (c__law_pot : PySem.W.codeIn K cd__law_pot "_law_pot" = true)
    (k__law_pot : PySem.W.keepIn K (.ref f__law_pot) = true)
    (g__law_take : PySem.W.nsIn K mainGlobals "_law_take" = some (some (.ref f__law_take)))
    (l__law_take : K.lookup f__law_take = some ⟨oc__law_take, od__law_take, .func (PySem.W.fnOf "_law_take" "_law_take" (defArgs s__law_take) (defBody s__law_take) (defScope s__law_take) .none kV__law_take dc__law_take pm__law_take an__law_take cd__law_take ct__law_take), sl__law_take⟩)
    (c__law_take : PySem.W.codeIn K cd__law_take "_law_take" = true)
    (k__law_take : PySem.W.keepIn K (.ref f__law_take) = true)
    (g__law_of : PySem.W.nsIn K mainGlobals "_law_of" = some (some (.ref f__law_of)))
    (l__law_of : K.lookup f__law_of = some ⟨oc__law_of, od__law_of, .func (PySem.W.fnOf "_law_of" "_law_of" (defArgs s__law_of) (defBody s__law_of) (defScope s__law_of) .none kV__law_of dc__law_of pm__law_of an__law_of cd__law_of ct__law_of), sl__law_of⟩)
    (c__law_of : PySem.W.codeIn K cd__law_of "_law_of" = true)
    (k__law_of : PySem.W.keepIn K (.ref f__law_of) = true)
    (g__law_places : PySem.W.nsIn K mainGlobals "_law_places" = some (some (.ref f__law_places)))
    (l__law_places : K.lookup f__law_places = some ⟨oc__law_places, od__law_places, .func (PySem.W.fnOf "_law_places" "_law_places" (defArgs s__law_places) (defBody s__law_places) (defScope s__law_places) .none kV__law_places dc__law_places pm__law_places an__law_places cd__law_places ct__law_places), sl__law_places⟩)
    (c__law_places : PySem.W.codeIn K cd__law_places "_law_places" = true)
    (k__law_places : PySem.W.keepIn K (.ref f__law_places) = true)
    (g_is_integer : PySem.W.nsIn K mainGlobals "is_integer" = some (some (.ref f_is_integer)))
    (l_is_integer : K.lookup f_is_integer = some ⟨oc_is_integer, od_is_integer, .func (PySem.W.fnOf "is_integer" "is_integer" (defArgs s_is_integer) (defBody s_is_integer) (defScope s_is_integer) .none kV_is_integer dc_is_integer pm_is_integer an_is_integer cd_is_integer ct_is_integer), sl_is_integer⟩)
    (c_is_integer : PySem.W.codeIn K cd_is_integer "is_integer" = true)
    (k_is_integer : PySem.W.keepIn K (.ref f_is_integer) = true)
    (g_is_number : PySem.W.nsIn K mainGlobals "is_number" = some (some (.ref f_is_number)))
    (l_is_number : K.lookup f_is_number = some ⟨oc_is_number, od_is_number, .func (PySem.W.fnOf "is_number" "is_number" (defArgs s_is_number) (defBody s_is_number) (defScope s_is_number) .none kV_is_number dc_is_number pm_is_number an_is_number cd_is_number ct_is_number), sl_is_number⟩)
    (c_is_number : PySem.W.codeIn K cd_is_number "is_number" = true)
    (k_is_number : PySem.W.keepIn K (.ref f_is_number) = true)
    (g_Ratio___init__ : PySem.W.findIn K (.ref C_Ratio) "__init__" = some (some (.ref f_Ratio___init__)))
    (l_Ratio___init__ : K.lookup f_Ratio___init__ = some ⟨oc_Ratio___init__, od_Ratio___init__, .func (PySem.W.fnOf "__init__" "Ratio.__init__" (defArgs s_Ratio___init__) (defBody s_Ratio___init__) (defScope s_Ratio___init__) (.ref dT_Ratio___init__) kV_Ratio___init__ dc_Ratio___init__ pm_Ratio___init__ an_Ratio___init__ cd_Ratio___init__ ct_Ratio___init__), sl_Ratio___init__⟩)
    (c_Ratio___init__ : PySem.W.codeIn K cd_Ratio___init__ "Ratio.__init__" = true)
    (k_Ratio___init__ : PySem.W.keepIn K (.ref f_Ratio___init__) = true)
    (d_Ratio___init__ : K.lookup dT_Ratio___init__ = some ⟨cT_Ratio___init__, eT_Ratio___init__, .seq its_Ratio___init__.toArray mT_Ratio___init__, sT_Ratio___init__⟩)
    (r_Ratio___init__ : Vals [.int 1] its_Ratio___init__)
    (g_as_ratio : PySem.W.nsIn K mainGlobals "as_ratio" = some (some (.ref f_as_ratio)))
    (l_as_ratio : K.lookup f_as_ratio = some ⟨oc_as_ratio, od_as_ratio, .func (PySem.W.fnOf "as_ratio" "as_ratio" (defArgs s_as_ratio) (defBody s_as_ratio) (defScope s_as_ratio) .none kV_as_ratio dc_as_ratio pm_as_ratio an_as_ratio cd_as_ratio ct_as_ratio), sl_as_ratio⟩)
    (c_as_ratio : PySem.W.codeIn K cd_as_ratio "as_ratio" = true)
    (k_as_ratio : PySem.W.keepIn K (.ref f_as_ratio) = true)
    (g__law_common : PySem.W.nsIn K mainGlobals "_law_common" = some (some (.ref f__law_common)))
    (l__law_common : K.lookup f__law_common = some ⟨oc__law_common, od__law_common, .func (PySem.W.fnOf "_law_common" "_law_common" (defArgs s__law_common) (defBody s__law_common) (defScope s__law_common) .none kV__law_common dc__law_common pm__law_common an__law_common cd__law_common ct__law_common), sl__law_common⟩)
    (c__law_common : PySem.W.codeIn K cd__law_common "_law_common" = true)
    (k__law_common : PySem.W.keepIn K (.ref f__law_common) = true)
    (g__law_pair : PySem.W.nsIn K mainGlobals "_law_pair" = some (some (.ref f__law_pair)))
    (l__law_pair : K.lookup f__law_pair = some ⟨oc__law_pair, od__law_pair, .func (PySem.W.fnOf "_law_pair" "_law_pair" (defArgs s__law_pair) (defBody s__law_pair) (defScope s__law_pair) .none kV__law_pair dc__law_pair pm__law_pair an__law_pair cd__law_pair ct__law_pair), sl__law_pair⟩)
    (c__law_pair : PySem.W.codeIn K cd__law_pair "_law_pair" = true)
    (k__law_pair : PySem.W.keepIn K (.ref f__law_pair) = true)
    (g__law_pair_of : PySem.W.nsIn K mainGlobals "_law_pair_of" = some (some (.ref f__law_pair_of)))
    (l__law_pair_of : K.lookup f__law_pair_of = some ⟨oc__law_pair_of, od__law_pair_of, .func (PySem.W.fnOf "_law_pair_of" "_law_pair_of" (defArgs s__law_pair_of) (defBody s__law_pair_of) (defScope s__law_pair_of) .none kV__law_pair_of dc__law_pair_of pm__law_pair_of an__law_pair_of cd__law_pair_of ct__law_pair_of), sl__law_pair_of⟩)
    (c__law_pair_of : PySem.W.codeIn K cd__law_pair_of "_law_pair_of" = true)
    (k__law_pair_of : PySem.W.keepIn K (.ref f__law_pair_of) = true)
    (g__law_odd : PySem.W.nsIn K mainGlobals "_law_odd" = some (some (.ref f__law_odd)))
    (l__law_odd : K.lookup f__law_odd = some ⟨oc__law_odd, od__law_odd, .func (PySem.W.fnOf "_law_odd" "_law_odd" (defArgs s__law_odd) (defBody s__law_odd) (defScope s__law_odd) .none kV__law_odd dc__law_odd pm__law_odd an__law_odd cd__law_odd ct__law_odd), sl__law_odd⟩)
    (c__law_odd : PySem.W.codeIn K cd__law_odd "_law_odd" = true)
    (k__law_odd : PySem.W.keepIn K (.ref f__law_odd) = true)
    (g_written : PySem.W.nsIn K mainGlobals "written" = some (some (.ref f_written)))
    (l_written : K.lookup f_written = some ⟨oc_written, od_written, .func (PySem.W.fnOf "written" "written" (defArgs s_written) (defBody s_written) (defScope s_written) .none kV_written dc_written pm_written an_written cd_written ct_written), sl_written⟩)
    (c_written : PySem.W.codeIn K cd_written "written" = true)
    (k_written : PySem.W.keepIn K (.ref f_written) = true)
    (g__has_figures_alone : PySem.W.nsIn K mainGlobals "_has_figures_alone" = some (some (.ref f__has_figures_alone)))
    (l__has_figures_alone : K.lookup f__has_figures_alone = some ⟨oc__has_figures_alone, od__has_figures_alone, .func (PySem.W.fnOf "_has_figures_alone" "_has_figures_alone" (defArgs s__has_figures_alone) (defBody s__has_figures_alone) (defScope s__has_figures_alone) .none kV__has_figures_alone dc__has_figures_alone pm__has_figures_alone an__has_figures_alone cd__has_figures_alone ct__has_figures_alone), sl__has_figures_alone⟩)
    (c__has_figures_alone : PySem.W.codeIn K cd__has_figures_alone "_has_figures_alone" = true)
    (k__has_figures_alone : PySem.W.keepIn K (.ref f__has_figures_alone) = true)
    (g__worth : PySem.W.nsIn K mainGlobals "_worth" = some (some (.ref f__worth)))
    (l__worth : K.lookup f__worth = some ⟨oc__worth, od__worth, .func (PySem.W.fnOf "_worth" "_worth" (defArgs s__worth) (defBody s__worth) (defScope s__worth) .none kV__worth dc__worth pm__worth an__worth cd__worth ct__worth), sl__worth⟩)
    (c__worth : PySem.W.codeIn K cd__worth "_worth" = true)
    (k__worth : PySem.W.keepIn K (.ref f__worth) = true)
    (pa_Ratio : PySem.W.findIn K (.ref C_Ratio) "text" = some (some (.ref pr_Ratio)))
    (pb_Ratio : PySem.W.specialIn K (.ref pr_Ratio) "__get__" = some (some (.builtin "property.__get__")))
    (pc_Ratio : PySem.W.takesIn K (.ref pr_Ratio) = some true)
    (pd_Ratio : PySem.W.recIn K pr_Ratio "property" = some (.ref f_Ratio_text :: rs_Ratio))
    (l_Ratio_text : K.lookup f_Ratio_text = some ⟨oc_Ratio_text, od_Ratio_text, .func (PySem.W.fnOf "text" "Ratio.text" (defArgs s_Ratio_text) (defBody s_Ratio_text) (defScope s_Ratio_text) .none kV_Ratio_text dc_Ratio_text pm_Ratio_text an_Ratio_text cd_Ratio_text ct_Ratio_text), sl_Ratio_text⟩)
    (c_Ratio_text : PySem.W.codeIn K cd_Ratio_text "Ratio.text" = true)
    (k_Ratio_text : PySem.W.keepIn K (.ref f_Ratio_text) = true)
    (g_read_ratio : PySem.W.nsIn K mainGlobals "read_ratio" = some (some (.ref f_read_ratio)))
    (l_read_ratio : K.lookup f_read_ratio = some ⟨oc_read_ratio, od_read_ratio, .func (PySem.W.fnOf "read_ratio" "read_ratio" (defArgs s_read_ratio) (defBody s_read_ratio) (defScope s_read_ratio) .none kV_read_ratio dc_read_ratio pm_read_ratio an_read_ratio cd_read_ratio ct_read_ratio), sl_read_ratio⟩)
    (c_read_ratio : PySem.W.codeIn K cd_read_ratio "read_ratio" = true)
    (k_read_ratio : PySem.W.keepIn K (.ref f_read_ratio) = true)
    (sc_Ratio : PySem.W.readsIn K C_Ratio (.type "type") = true)
    (sd_Ratio : PySem.W.specialIn K (.ref C_Ratio) "__getattribute__" = some (some (.builtin "type.__getattribute__")))
    (sa_Ratio : PySem.W.findCls K (.ref C_Ratio) (.type "type") "of" = some (.get (.builtin "staticmethod.__get__") (.ref ps_Ratio) .none (.ref C_Ratio)))
    (sb_Ratio : PySem.W.recIn K ps_Ratio "staticmethod" = some (.ref f_Ratio_of :: ss_Ratio))
    (l_Ratio_of : K.lookup f_Ratio_of = some ⟨oc_Ratio_of, od_Ratio_of, .func (PySem.W.fnOf "of" "Ratio.of" (defArgs s_Ratio_of) (defBody s_Ratio_of) (defScope s_Ratio_of) .none kV_Ratio_of dc_Ratio_of pm_Ratio_of an_Ratio_of cd_Ratio_of ct_Ratio_of), sl_Ratio_of⟩)
    (c_Ratio_of : PySem.W.codeIn K cd_Ratio_of "Ratio.of" = true)
    (k_Ratio_of : PySem.W.keepIn K (.ref f_Ratio_of) = true)
    (g_Point___init__ : PySem.W.findIn K (.ref C_Point) "__init__" = some (some (.ref f_Point___init__)))
    (l_Point___init__ : K.lookup f_Point___init__ = some ⟨oc_Point___init__, od_Point___init__, .func (PySem.W.fnOf "__init__" "Point.__init__" (defArgs s_Point___init__) (defBody s_Point___init__) (defScope s_Point___init__) .none kV_Point___init__ dc_Point___init__ pm_Point___init__ an_Point___init__ cd_Point___init__ ct_Point___init__), sl_Point___init__⟩)
    (c_Point___init__ : PySem.W.codeIn K cd_Point___init__ "Point.__init__" = true)
    (k_Point___init__ : PySem.W.keepIn K (.ref f_Point___init__) = true)
    (pa_Point : PySem.W.findIn K (.ref C_Point) "text" = some (some (.ref pr_Point)))
    (pb_Point : PySem.W.specialIn K (.ref pr_Point) "__get__" = some (some (.builtin "property.__get__")))
    (pc_Point : PySem.W.takesIn K (.ref pr_Point) = some true)
    (pd_Point : PySem.W.recIn K pr_Point "property" = some (.ref f_Point_text :: rs_Point))
    (l_Point_text : K.lookup f_Point_text = some ⟨oc_Point_text, od_Point_text, .func (PySem.W.fnOf "text" "Point.text" (defArgs s_Point_text) (defBody s_Point_text) (defScope s_Point_text) .none kV_Point_text dc_Point_text pm_Point_text an_Point_text cd_Point_text ct_Point_text), sl_Point_text⟩)
    (c_Point_text : PySem.W.codeIn K cd_Point_text "Point.text" = true)
    (k_Point_text : PySem.W.keepIn K (.ref f_Point_text) = true)
    (g_read_point : PySem.W.nsIn K mainGlobals "read_point" = some (some (.ref f_read_point)))
    (l_read_point : K.lookup f_read_point = some ⟨oc_read_point, od_read_point, .func (PySem.W.fnOf "read_point" "read_point" (defArgs s_read_point) (defBody s_read_point) (defScope s_read_point) .none kV_read_point dc_read_point pm_read_point an_read_point cd_read_point ct_read_point), sl_read_point⟩)
    (c_read_point : PySem.W.codeIn K cd_read_point "read_point" = true)
    (k_read_point : PySem.W.keepIn K (.ref f_read_point) = true)
    (sc_Point : PySem.W.readsIn K C_Point (.type "type") = true)
    (sd_Point : PySem.W.specialIn K (.ref C_Point) "__getattribute__" = some (some (.builtin "type.__getattribute__")))
    (sa_Point : PySem.W.findCls K (.ref C_Point) (.type "type") "of" = some (.get (.builtin "staticmethod.__get__") (.ref ps_Point) .none (.ref C_Point)))
    (sb_Point : PySem.W.recIn K ps_Point "staticmethod" = some (.ref f_Point_of :: ss_Point))
    (l_Point_of : K.lookup f_Point_of = some ⟨oc_Point_of, od_Point_of, .func (PySem.W.fnOf "of" "Point.of" (defArgs s_Point_of) (defBody s_Point_of) (defScope s_Point_of) .none kV_Point_of dc_Point_of pm_Point_of an_Point_of cd_Point_of ct_Point_of), sl_Point_of⟩)
    (c_Point_of : PySem.W.codeIn K cd_Point_of "Point.of" = true)
    (k_Point_of : PySem.W.keepIn K (.ref f_Point_of) = true)
    (g__law_ratio_text : PySem.W.nsIn K mainGlobals "_law_ratio_text" = some (some (.ref f__law_ratio_text)))
    (l__law_ratio_text : K.lookup f__law_ratio_text = some ⟨oc__law_ratio_text, od__law_ratio_text, .func (PySem.W.fnOf "_law_ratio_text" "_law_ratio_text" (defArgs s__law_ratio_text) (defBody s__law_ratio_text) (defScope s__law_ratio_text) .none kV__law_ratio_text dc__law_ratio_text pm__law_ratio_text an__law_ratio_text cd__law_ratio_text ct__law_ratio_text), sl__law_ratio_text⟩)
    (c__law_ratio_text : PySem.W.codeIn K cd__law_ratio_text "_law_ratio_text" = true)
    (k__law_ratio_text : PySem.W.keepIn K (.ref f__law_ratio_text) = true)
    (g__law_figures : PySem.W.nsIn K mainGlobals "_law_figures" = some (some (.ref f__law_figures)))
    (l__law_figures : K.lookup f__law_figures = some ⟨oc__law_figures, od__law_figures, .func (PySem.W.fnOf "_law_figures" "_law_figures" (defArgs s__law_figures) (defBody s__law_figures) (defScope s__law_figures) .none kV__law_figures dc__law_figures pm__law_figures an__law_figures cd__law_figures ct__law_figures), sl__law_figures⟩)
    (c__law_figures : PySem.W.codeIn K cd__law_figures "_law_figures" = true)
    (k__law_figures : PySem.W.keepIn K (.ref f__law_figures) = true)
    (g__law_read : PySem.W.nsIn K mainGlobals "_law_read" = some (some (.ref f__law_read)))
    (l__law_read : K.lookup f__law_read = some ⟨oc__law_read, od__law_read, .func (PySem.W.fnOf "_law_read" "_law_read" (defArgs s__law_read) (defBody s__law_read) (defScope s__law_read) .none kV__law_read dc__law_read pm__law_read an__law_read cd__law_read ct__law_read), sl__law_read⟩)
    (c__law_read : PySem.W.codeIn K cd__law_read "_law_read" = true)
    (k__law_read : PySem.W.keepIn K (.ref f__law_read) = true)
    (g__law_drawn : PySem.W.nsIn K mainGlobals "_law_drawn" = some (some (.ref f__law_drawn)))
    (l__law_drawn : K.lookup f__law_drawn = some ⟨oc__law_drawn, od__law_drawn, .func (PySem.W.fnOf "_law_drawn" "_law_drawn" (defArgs s__law_drawn) (defBody s__law_drawn) (defScope s__law_drawn) .none kV__law_drawn dc__law_drawn pm__law_drawn an__law_drawn cd__law_drawn ct__law_drawn), sl__law_drawn⟩)
    (c__law_drawn : PySem.W.codeIn K cd__law_drawn "_law_drawn" = true)
    (k__law_drawn : PySem.W.keepIn K (.ref f__law_drawn) = true)
    (g__law_bent_text : PySem.W.nsIn K mainGlobals "_law_bent_text" = some (some (.ref f__law_bent_text)))
    (l__law_bent_text : K.lookup f__law_bent_text = some ⟨oc__law_bent_text, od__law_bent_text, .func (PySem.W.fnOf "_law_bent_text" "_law_bent_text" (defArgs s__law_bent_text) (defBody s__law_bent_text) (defScope s__law_bent_text) .none kV__law_bent_text dc__law_bent_text pm__law_bent_text an__law_bent_text cd__law_bent_text ct__law_bent_text), sl__law_bent_text⟩)
    (c__law_bent_text : PySem.W.codeIn K cd__law_bent_text "_law_bent_text" = true)
    (k__law_bent_text : PySem.W.keepIn K (.ref f__law_bent_text) = true)
    (g__law_is_ratio_right : PySem.W.nsIn K mainGlobals "_law_is_ratio_right" = some (some (.ref f__law_is_ratio_right)))
    (l__law_is_ratio_right : K.lookup f__law_is_ratio_right = some ⟨oc__law_is_ratio_right, od__law_is_ratio_right, .func (PySem.W.fnOf "_law_is_ratio_right" "_law_is_ratio_right" (defArgs s__law_is_ratio_right) (defBody s__law_is_ratio_right) (defScope s__law_is_ratio_right) .none kV__law_is_ratio_right dc__law_is_ratio_right pm__law_is_ratio_right an__law_is_ratio_right (.ref cA__law_is_ratio_right) ct__law_is_ratio_right), sl__law_is_ratio_right⟩)
    (c__law_is_ratio_right : PySem.W.codeIn K (.ref cA__law_is_ratio_right) "_law_is_ratio_right" = true)
    (k__law_is_ratio_right : PySem.W.keepIn K (.ref f__law_is_ratio_right) = true)
    (o__law_is_ratio_right : K.lookup cA__law_is_ratio_right = some ⟨eC__law_is_ratio_right, dC__law_is_ratio_right, .fields vC__law_is_ratio_right, sC__law_is_ratio_right⟩)
    (v__law_is_ratio_right : vC__law_is_ratio_right[11]? = some (.ref Pt__law_is_ratio_right))
    (t__law_is_ratio_right : K.lookup Pt__law_is_ratio_right = none)
    (g__law_is_point_right : PySem.W.nsIn K mainGlobals "_law_is_point_right" = some (some (.ref f__law_is_point_right)))
    (l__law_is_point_right : K.lookup f__law_is_point_right = some ⟨oc__law_is_point_right, od__law_is_point_right, .func (PySem.W.fnOf "_law_is_point_right" "_law_is_point_right" (defArgs s__law_is_point_right) (defBody s__law_is_point_right) (defScope s__law_is_point_right) .none kV__law_is_point_right dc__law_is_point_right pm__law_is_point_right an__law_is_point_right (.ref cA__law_is_point_right) ct__law_is_point_right), sl__law_is_point_right⟩)
    (c__law_is_point_right : PySem.W.codeIn K (.ref cA__law_is_point_right) "_law_is_point_right" = true)
    (k__law_is_point_right : PySem.W.keepIn K (.ref f__law_is_point_right) = true)
    (o__law_is_point_right : K.lookup cA__law_is_point_right = some ⟨eC__law_is_point_right, dC__law_is_point_right, .fields vC__law_is_point_right, sC__law_is_point_right⟩)
    (v__law_is_point_right : vC__law_is_point_right[11]? = some (.ref Pt__law_is_point_right))
    (t__law_is_point_right : K.lookup Pt__law_is_point_right = none)
    (g__law_right : PySem.W.nsIn K mainGlobals "_law_right" = some (some (.ref f__law_right)))
    (l__law_right : K.lookup f__law_right = some ⟨oc__law_right, od__law_right, .func (PySem.W.fnOf "_law_right" "_law_right" (defArgs s__law_right) (defBody s__law_right) (defScope s__law_right) .none kV__law_right dc__law_right pm__law_right an__law_right cd__law_right ct__law_right), sl__law_right⟩)
    (c__law_right : PySem.W.codeIn K cd__law_right "_law_right" = true)
    (k__law_right : PySem.W.keepIn K (.ref f__law_right) = true)
    (g_law : PySem.W.nsIn K mainGlobals "law" = some (some (.ref f_law)))
    (l_law : K.lookup f_law = some ⟨oc_law, od_law, .func (PySem.W.fnOf "law" "law" (defArgs s_law) (defBody s_law) (defScope s_law) .none kV_law dc_law pm_law an_law cd_law ct_law), sl_law⟩)
    (c_law : PySem.W.codeIn K cd_law "law" = true)
    (k_law : PySem.W.keepIn K (.ref f_law) = true)
    (ri1 : PySem.W.findIn K (.ref C_Ratio) "__class__" = some (some (.builtin "object.__class__")))
    (ri4 : PySem.W.mroIn K C_Ratio (.type "object") = some true)
    (ri5 : PySem.W.kitOne K (.ref C_Ratio) (.type "int") = some false)
    (ri6 : PySem.W.kitOne K (.ref C_Ratio) (.type "bool") = some false)
    (ri7 : PySem.W.kitOne K (.ref C_Ratio) (.ref C_Ratio) = some true)
    (ri8 : (["int", "bool", "NoneType", "str", "tuple", "list", "dict"] : List String).all (fun t => decide (PySem.W.kitOne K (.type t) (.ref C_Ratio) = some false)) = true)
    (cl1 : PySem.W.plainGet K C_Ratio Str.empty = true)
    (cl2 : PySem.W.hasDictIn K C_Ratio = true)
    (cl3 : PySem.W.plainOver K C_Ratio = true)
    (cl4 : PySem.W.findIn K (.ref C_Ratio) "__setattr__" = some (some (.builtin "object.__setattr__")))
    (mk1 : PySem.W.makesIn K C_Ratio = true)
    (mk2 : PySem.W.keepIn K (.ref C_Ratio) = true)
    (mk3 : PySem.W.isFn K (.ref f_Ratio___init__) = true)
    (cl1P : PySem.W.plainGet K C_Point Str.empty = true)
    (cl2P : PySem.W.hasDictIn K C_Point = true)
    (cl3P : PySem.W.plainOver K C_Point = true)
    (cl4P : PySem.W.findIn K (.ref C_Point) "__setattr__" = some (some (.builtin "object.__setattr__")))
    (mk1P : PySem.W.makesIn K C_Point = true)
    (mk2P : PySem.W.keepIn K (.ref C_Point) = true)
    (mk3P : PySem.W.isFn K (.ref f_Point___init__) = true)
    (nN : PySem.W.findIn K (.ref C_Ratio) "number" = some none)
    (nU : PySem.W.findIn K (.ref C_Ratio) "under" = some none)
    (nX : PySem.W.findIn K (.ref C_Point) "x" = some none)
    (nY : PySem.W.findIn K (.ref C_Point) "y" = some none)
    (xB : PySem.W.exmOne K (.ref C_BadText) (.ref C_AboutError) = some true)
    (tB : PySem.W.kitOne K (.ref C_BadText) (.ref C_BadText) = some true)
    (nP : Pt__law_is_ratio_right ≠ Pt__law_is_point_right) :
    LawT P w K 13 63 "_law_script" mg fa h := by
  have e := hfa.symm.trans (PySem.W.mg_of X G g_law)
  cases e
  let a : Ad := ⟨f_init, C_AboutError, C_BadText, C_Ratio, C_Point, f__law_pot, f__law_take, f__law_of, f__law_places, f__law_told, f__law_odd, f__law_common, f__law_pair, f__law_ratio_text, f__law_pair_of, f__law_figures, f__law_read, f__law_drawn, f__law_bent_text, f__law_is_ratio_right, f__law_is_point_right, f__law_right, fa, f_is_integer, f_is_number, f_as_ratio, f_written, f__has_figures_alone, f__worth, f_read_ratio, f_read_point, f_Ratio___init__, f_Ratio_text, f_Ratio_of, f_Point___init__, f_Point_text, f_Point_of⟩
  have eb1 : ∀ C ∈ [C_AboutError, C_BadText], ecB K f_init C = true := List.all_eq_true.mp eb
  have e_AboutError := ecB_ok (eb1 C_AboutError (by simp)) ⟨_, _, _, _, _, _, _, _, _, _, _, _, _, _, _, x_AboutError, by rfl⟩
  have e_BadText := ecB_ok (eb1 C_BadText (by simp)) ⟨_, _, _, _, _, _, _, _, _, _, _, _, _, _, _, x_BadText, by rfl⟩
  have T : Txt K mg a := {
    n_abs := PySem.W.mg_none_of X G n_abs
    n_all := PySem.W.mg_none_of X G n_all
    n_any := PySem.W.mg_none_of X G n_any
    n_bool := PySem.W.mg_none_of X G n_bool
    n_int := PySem.W.mg_none_of X G n_int
    n_isinstance := PySem.W.mg_none_of X G n_isinstance
    n_len := PySem.W.mg_none_of X G n_len
    n_list := PySem.W.mg_none_of X G n_list
    n_max := PySem.W.mg_none_of X G n_max
    n_min := PySem.W.mg_none_of X G n_min
    n_range := PySem.W.mg_none_of X G n_range
    n_repr := PySem.W.mg_none_of X G n_repr
    n_divmod := PySem.W.mg_none_of X G n_divmod
    n_str := PySem.W.mg_none_of X G n_str
    g__law_pot := PySem.W.mg_of X G g__law_pot
    k__law_pot := k__law_pot
    g__law_take := PySem.W.mg_of X G g__law_take
    k__law_take := k__law_take
    g__law_of := PySem.W.mg_of X G g__law_of
    k__law_of := k__law_of
    g__law_places := PySem.W.mg_of X G g__law_places
    k__law_places := k__law_places
    g_is_integer := PySem.W.mg_of X G g_is_integer
    k_is_integer := k_is_integer
    g_is_number := PySem.W.mg_of X G g_is_number
    k_is_number := k_is_number
    g_as_ratio := PySem.W.mg_of X G g_as_ratio
    k_as_ratio := k_as_ratio
    g__law_common := PySem.W.mg_of X G g__law_common
    k__law_common := k__law_common
    g__law_pair := PySem.W.mg_of X G g__law_pair
    k__law_pair := k__law_pair
    g__law_pair_of := PySem.W.mg_of X G g__law_pair_of
    k__law_pair_of := k__law_pair_of
    g__law_odd := PySem.W.mg_of X G g__law_odd
    k__law_odd := k__law_odd
    g_written := PySem.W.mg_of X G g_written
    k_written := k_written
    g__has_figures_alone := PySem.W.mg_of X G g__has_figures_alone
    k__has_figures_alone := k__has_figures_alone
    g__worth := PySem.W.mg_of X G g__worth
    k__worth := k__worth
    g_read_ratio := PySem.W.mg_of X G g_read_ratio
    k_read_ratio := k_read_ratio
    g_read_point := PySem.W.mg_of X G g_read_point
    k_read_point := k_read_point
    g__law_ratio_text := PySem.W.mg_of X G g__law_ratio_text
    k__law_ratio_text := k__law_ratio_text
    g__law_figures := PySem.W.mg_of X G g__law_figures
    k__law_figures := k__law_figures
    g__law_read := PySem.W.mg_of X G g__law_read
    k__law_read := k__law_read
    g__law_drawn := PySem.W.mg_of X G g__law_drawn
    k__law_drawn := k__law_drawn
    g__law_bent_text := PySem.W.mg_of X G g__law_bent_text
    k__law_bent_text := k__law_bent_text
    g__law_is_ratio_right := PySem.W.mg_of X G g__law_is_ratio_right
    k__law_is_ratio_right := k__law_is_ratio_right
    g__law_is_point_right := PySem.W.mg_of X G g__law_is_point_right
    k__law_is_point_right := k__law_is_point_right
    g__law_right := PySem.W.mg_of X G g__law_right
    k__law_right := k__law_right
    g_law := PySem.W.mg_of X G g_law
    k_law := k_law
    g_AboutError := PySem.W.mg_of X G g_AboutError
    g_BadText := PySem.W.mg_of X G g_BadText
    c_BadText := e_BadText.1
    i_BadText := e_BadText.2
    tI := tI
    ek := ⟨sp, tk⟩
    x_BadText := xB
    t_BadText := tB
    g_gcd := PySem.W.mg_of X G gG
    g_PART := ⟨tP, PySem.W.mg_of X G gP⟩
    g_FIG := ⟨tF, PySem.W.mg_of X G gF⟩
    g_Ratio := PySem.W.mg_of X G g_Ratio
    m_Ratio := ⟨mk1, g_Ratio___init__, mk3, mk2⟩
    cl := ⟨cl1, cl2, cl3, cl4⟩
    nN := nN
    nU := nU
    ri := ⟨ri1, sp, tk, ri4, ri5, ri6, ri7, fun t ht => of_decide_eq_true (List.all_eq_true.mp ri8 t ht)⟩
    g_Point := PySem.W.mg_of X G g_Point
    m_Point := ⟨mk1P, g_Point___init__, mk3P, mk2P⟩
    clP := ⟨cl1P, cl2P, cl3P, cl4P⟩
    nX := nX
    nY := nY
    tR := ⟨pr_Ratio, ⟨pa_Ratio, pb_Ratio, pc_Ratio, _, pd_Ratio⟩⟩
    tP := ⟨pr_Point, ⟨pa_Point, pb_Point, pc_Point, _, pd_Point⟩⟩
    oR := ⟨⟨_, _, _, ⟨sc_Ratio, sd_Ratio⟩, sa_Ratio, sb_Ratio⟩, k_Ratio_of⟩
    oP := ⟨⟨_, _, _, ⟨sc_Point, sd_Point⟩, sa_Point, sb_Point⟩, k_Point_of⟩
    g__law_told := PySem.W.mg_of X G g__law_told
    k__law_told := k__law_told
  }
  have F_init := fun_mk (st := s_init) l_init c_init k_init
  have b_init := F_init.binds (ps := ["self", "value"]) fun _ _ _ _ _ _ us hl => match us, hl with | [_, _], _ => rfl
  have F__law_told := fun_mk (st := s__law_told) l__law_told c__law_told k__law_told
  have b__law_told := F__law_told.binds (ps := ["_law_ask"]) fun _ _ _ _ _ _ us hl => match us, hl with | [_], _ => rfl
  have F__law_pot := fun_mk (st := s__law_pot) l__law_pot c__law_pot k__law_pot
  have b__law_pot := F__law_pot.binds (ps := ["_law_script", "_law_k"]) fun _ _ _ _ _ _ us hl => match us, hl with | [_, _], _ => rfl
  have F__law_take := fun_mk (st := s__law_take) l__law_take c__law_take k__law_take
  have b__law_take := F__law_take.binds (ps := ["_law_pot_here", "_law_upto"]) fun _ _ _ _ _ _ us hl => match us, hl with | [_, _], _ => rfl
  have F__law_of := fun_mk (st := s__law_of) l__law_of c__law_of k__law_of
  have b__law_of := F__law_of.binds (ps := ["_law_pot_here", "_law_some"]) fun _ _ _ _ _ _ us hl => match us, hl with | [_, _], _ => rfl
  have F__law_places := fun_mk (st := s__law_places) l__law_places c__law_places k__law_places
  have b__law_places := F__law_places.binds (ps := ["_law_script", "_law_most"]) fun _ _ _ _ _ _ us hl => match us, hl with | [_, _], _ => rfl
  have F_is_integer := fun_mk (st := s_is_integer) l_is_integer c_is_integer k_is_integer
  have b_is_integer := F_is_integer.binds (ps := ["value"]) fun _ _ _ _ _ _ us hl => match us, hl with | [_], _ => rfl
  have F_is_number := fun_mk (st := s_is_number) l_is_number c_is_number k_is_number
  have b_is_number := F_is_number.binds (ps := ["value"]) fun _ _ _ _ _ _ us hl => match us, hl with | [_], _ => rfl
  have F_Ratio___init__ : FunD K "__init__" "Ratio.__init__" (defArgs s_Ratio___init__) (defBody s_Ratio___init__) (defScope s_Ratio___init__) [.int 1] [] f_Ratio___init__ _ := ⟨⟨_, _, _, _, _, _, _, _, _, _, rfl, l_Ratio___init__, c_Ratio___init__, .inr ⟨by simp, _, _, _, _, rfl, d_Ratio___init__, rfl, r_Ratio___init__⟩, .inl rfl⟩, k_Ratio___init__⟩
  have d_Ratio___init__ := F_Ratio___init__.binds1 (ps := ["self", "number", "under"]) 2 0 (by simp) (by rfl) fun T kV doc pm an cdv ct us its hu hi => match us, its, hu, hi with | [_, _], [_], _, _ => ⟨_, rfl, rfl⟩
  obtain ⟨ds_Ratio___init__, d_Ratio___init__⟩ := d_Ratio___init__
  have b_Ratio___init__ := F_Ratio___init__.binds1 (ps := ["self", "number", "under"]) 3 1 (by simp) (by rfl) fun T kV doc pm an cdv ct us its hu hi => match us, its, hu, hi with | [_, _, _], [_], _, _ => ⟨_, rfl, rfl⟩
  obtain ⟨es_Ratio___init__, v_Ratio___init__, b_Ratio___init__⟩ := b_Ratio___init__
  cases v_Ratio___init__
  have F_as_ratio := fun_mk (st := s_as_ratio) l_as_ratio c_as_ratio k_as_ratio
  have b_as_ratio := F_as_ratio.binds (ps := ["number"]) fun _ _ _ _ _ _ us hl => match us, hl with | [_], _ => rfl
  have F__law_common := fun_mk (st := s__law_common) l__law_common c__law_common k__law_common
  have b__law_common := F__law_common.binds (ps := ["_law_one", "_law_other"]) fun _ _ _ _ _ _ us hl => match us, hl with | [_, _], _ => rfl
  have F__law_pair := fun_mk (st := s__law_pair) l__law_pair c__law_pair k__law_pair
  have b__law_pair := F__law_pair.binds (ps := ["_law_above", "_law_under"]) fun _ _ _ _ _ _ us hl => match us, hl with | [_, _], _ => rfl
  have F__law_pair_of := fun_mk (st := s__law_pair_of) l__law_pair_of c__law_pair_of k__law_pair_of
  have b__law_pair_of := F__law_pair_of.binds (ps := ["_law_made"]) fun _ _ _ _ _ _ us hl => match us, hl with | [_], _ => rfl
  have F__law_odd := fun_mk (st := s__law_odd) l__law_odd c__law_odd k__law_odd
  have b__law_odd := F__law_odd.binds (ps := ["_law_pot_here"]) fun _ _ _ _ _ _ us hl => match us, hl with | [_], _ => rfl
  have F_written := fun_mk (st := s_written) l_written c_written k_written
  have b_written := F_written.binds (ps := ["integer"]) fun _ _ _ _ _ _ us hl => match us, hl with | [_], _ => rfl
  have F__has_figures_alone := fun_mk (st := s__has_figures_alone) l__has_figures_alone c__has_figures_alone k__has_figures_alone
  have b__has_figures_alone := F__has_figures_alone.binds (ps := ["word"]) fun _ _ _ _ _ _ us hl => match us, hl with | [_], _ => rfl
  have F__worth := fun_mk (st := s__worth) l__worth c__worth k__worth
  have b__worth := F__worth.binds (ps := ["word"]) fun _ _ _ _ _ _ us hl => match us, hl with | [_], _ => rfl
  have F_Ratio_text := fun_mk (st := s_Ratio_text) l_Ratio_text c_Ratio_text k_Ratio_text
  have b_Ratio_text := F_Ratio_text.binds (ps := ["self"]) fun _ _ _ _ _ _ us hl => match us, hl with | [_], _ => rfl
  have F_read_ratio := fun_mk (st := s_read_ratio) l_read_ratio c_read_ratio k_read_ratio
  have b_read_ratio := F_read_ratio.binds (ps := ["value"]) fun _ _ _ _ _ _ us hl => match us, hl with | [_], _ => rfl
  have F_Ratio_of := fun_mk (st := s_Ratio_of) l_Ratio_of c_Ratio_of k_Ratio_of
  have b_Ratio_of := F_Ratio_of.binds (ps := ["text"]) fun _ _ _ _ _ _ us hl => match us, hl with | [_], _ => rfl
  have F_Point___init__ := fun_mk (st := s_Point___init__) l_Point___init__ c_Point___init__ k_Point___init__
  have b_Point___init__ := F_Point___init__.binds (ps := ["self", "x", "y"]) fun _ _ _ _ _ _ us hl => match us, hl with | [_, _, _], _ => rfl
  have F_Point_text := fun_mk (st := s_Point_text) l_Point_text c_Point_text k_Point_text
  have b_Point_text := F_Point_text.binds (ps := ["self"]) fun _ _ _ _ _ _ us hl => match us, hl with | [_], _ => rfl
  have F_read_point := fun_mk (st := s_read_point) l_read_point c_read_point k_read_point
  have b_read_point := F_read_point.binds (ps := ["value"]) fun _ _ _ _ _ _ us hl => match us, hl with | [_], _ => rfl
  have F_Point_of := fun_mk (st := s_Point_of) l_Point_of c_Point_of k_Point_of
  have b_Point_of := F_Point_of.binds (ps := ["text"]) fun _ _ _ _ _ _ us hl => match us, hl with | [_], _ => rfl
  have F__law_ratio_text := fun_mk (st := s__law_ratio_text) l__law_ratio_text c__law_ratio_text k__law_ratio_text
  have b__law_ratio_text := F__law_ratio_text.binds (ps := ["_law_pair_here"]) fun _ _ _ _ _ _ us hl => match us, hl with | [_], _ => rfl
  have F__law_figures := fun_mk (st := s__law_figures) l__law_figures c__law_figures k__law_figures
  have b__law_figures := F__law_figures.binds (ps := ["_law_word"]) fun _ _ _ _ _ _ us hl => match us, hl with | [_], _ => rfl
  have F__law_read := fun_mk (st := s__law_read) l__law_read c__law_read k__law_read
  have b__law_read := F__law_read.binds (ps := ["_law_text"]) fun _ _ _ _ _ _ us hl => match us, hl with | [_], _ => rfl
  have F__law_drawn := fun_mk (st := s__law_drawn) l__law_drawn c__law_drawn k__law_drawn
  have b__law_drawn := F__law_drawn.binds (ps := ["_law_pot_here"]) fun _ _ _ _ _ _ us hl => match us, hl with | [_], _ => rfl
  have F__law_bent_text := fun_mk (st := s__law_bent_text) l__law_bent_text c__law_bent_text k__law_bent_text
  have b__law_bent_text := F__law_bent_text.binds (ps := ["_law_pot_here", "_law_text"]) fun _ _ _ _ _ _ us hl => match us, hl with | [_, _], _ => rfl
  have F__law_is_ratio_right := fun_mk (st := s__law_is_ratio_right) l__law_is_ratio_right c__law_is_ratio_right k__law_is_ratio_right
  have b__law_is_ratio_right := F__law_is_ratio_right.binds (ps := ["_law_value"]) fun _ _ _ _ _ _ us hl => match us, hl with | [_], _ => rfl
  have F__law_is_point_right := fun_mk (st := s__law_is_point_right) l__law_is_point_right c__law_is_point_right k__law_is_point_right
  have b__law_is_point_right := F__law_is_point_right.binds (ps := ["_law_value"]) fun _ _ _ _ _ _ us hl => match us, hl with | [_], _ => rfl
  have F__law_right := fun_mk (st := s__law_right) l__law_right c__law_right k__law_right
  have b__law_right := F__law_right.binds (ps := ["_law_pot_here"]) fun _ _ _ _ _ _ us hl => match us, hl with | [_], _ => rfl
  have F_law := fun_mk (st := s_law) l_law c_law k_law
  have b_law := F_law.binds (ps := ["_law_script"]) fun _ _ _ _ _ _ us hl => match us, hl with | [_], _ => rfl
  obtain ⟨xf__law_is_ratio_right, xo, xd, c_cd__law_is_ratio_right, xt__law_is_ratio_right, y1, y2, y3, y4, y5__law_is_ratio_right, y6__law_is_ratio_right⟩ := bare__law_is_ratio_right
  rw [PySem.W.mg_of X G g__law_is_ratio_right] at y1
  cases y1
  rw [X _ _ l__law_is_ratio_right] at y2
  cases y2
  cases y3
  cases y4
  have same__law_is_ratio_right : Pt__law_is_ratio_right = xt__law_is_ratio_right := by
    obtain ⟨ob, us, _, _, _, _, _, _, _, z1, _, z3, z4, _⟩ := id y5__law_is_ratio_right
    rw [X _ _ o__law_is_ratio_right] at z1
    cases z1
    cases z3
    rw [v__law_is_ratio_right] at z4
    injection z4 with z5
    injection z5
  rw [← same__law_is_ratio_right] at y5__law_is_ratio_right y6__law_is_ratio_right
  obtain ⟨xf__law_is_point_right, xo, xd, c_cd__law_is_point_right, xt__law_is_point_right, y1, y2, y3, y4, y5__law_is_point_right, y6__law_is_point_right⟩ := bare__law_is_point_right
  rw [PySem.W.mg_of X G g__law_is_point_right] at y1
  cases y1
  rw [X _ _ l__law_is_point_right] at y2
  cases y2
  cases y3
  cases y4
  have same__law_is_point_right : Pt__law_is_point_right = xt__law_is_point_right := by
    obtain ⟨ob, us, _, _, _, _, _, _, _, z1, _, z3, z4, _⟩ := id y5__law_is_point_right
    rw [X _ _ o__law_is_point_right] at z1
    cases z1
    cases z3
    rw [v__law_is_point_right] at z4
    injection z4 with z5
    injection z5
  rw [← same__law_is_point_right] at y5__law_is_point_right y6__law_is_point_right
  refine ⟨PySem.W.fnOf "law" "law" (defArgs s_law) (defBody s_law) (defScope s_law) .none kV_law dc_law pm_law an_law cd_law ct_law, [(cA__law_is_ratio_right, Pt__law_is_ratio_right), (cA__law_is_point_right, Pt__law_is_point_right)], spLaw K Pt__law_is_ratio_right Pt__law_is_point_right, ?facts, fun s v => .of_eq rfl, ?told, fun base hK hG TB => ?fn⟩
  case facts =>
    intro p hp
    simp only [List.mem_cons, List.not_mem_nil, or_false] at hp
    rcases hp with rfl | rfl
    · exact ⟨y6__law_is_ratio_right, t__law_is_ratio_right, y5__law_is_ratio_right⟩
    · exact ⟨y6__law_is_point_right, t__law_is_point_right, y5__law_is_point_right⟩
  case told =>
    intro H b ns hl hT hS
    refine ⟨b, ns, rfl, hS, hl, fun p hp => ?_, fun _ => rfl⟩
    simp only [TT2, List.mem_cons, List.not_mem_nil, or_false] at hp
    rcases hp with rfl | rfl
    · exact TabS.nil (hT (cA__law_is_ratio_right, Pt__law_is_ratio_right) (by simp))
    · exact TabS.nil (hT (cA__law_is_point_right, Pt__law_is_point_right) (by simp))
  case fn =>
    have G_init : FnOk P w K mg base CX0 1 f_init _ ["self", "value"] (spErrInit K) := ok_init F_init
    have G__law_pot := ok__law_pot (P := P) (w := w) (base := base) (a := a) F__law_pot T
    have G__law_take := ok__law_take (P := P) (w := w) (base := base) (a := a) F__law_take T
    have G__law_of := ok__law_of (P := P) (w := w) (base := base) (a := a) F__law_of T G__law_take b__law_take
    have G__law_places := ok__law_places (P := P) (w := w) (base := base) (a := a) F__law_places T
    have G_is_integer := ok_is_integer (P := P) (w := w) (base := base) (a := a) F_is_integer T
    have G_is_number := ok_is_number (P := P) (w := w) (base := base) (a := a) F_is_number T G_is_integer b_is_integer
    have G_Ratio___init__ := ok_Ratio___init__ (P := P) (w := w) (base := base) (a := a) F_Ratio___init__ T G_is_integer b_is_integer
    have G_as_ratio := ok_as_ratio (P := P) (w := w) (base := base) (a := a) F_as_ratio T G_Ratio___init__ b_Ratio___init__ d_Ratio___init__
    have G__law_common := ok__law_common (P := P) (w := w) (base := base) (a := a) F__law_common T
    have G__law_pair := ok__law_pair (P := P) (w := w) (base := base) (a := a) F__law_pair T G__law_common b__law_common
    have G__law_pair_of := ok__law_pair_of (P := P) (w := w) (base := base) (a := a) F__law_pair_of T
    have G__law_odd := ok__law_odd (P := P) (w := w) (base := base) (a := a) F__law_odd T G__law_of b__law_of
    have G_written := ok_written (P := P) (w := w) (base := base) (a := a) F_written T
    have G__has_figures_alone := ok__has_figures_alone (P := P) (w := w) (base := base) (a := a) F__has_figures_alone T
    have G__worth := ok__worth (P := P) (w := w) (base := base) (a := a) F__worth T
    have G_Ratio_text := ok_Ratio_text (P := P) (w := w) (base := base) (a := a) F_Ratio_text T G_written b_written
    have G_read_ratio := ok_read_ratio (P := P) (w := w) (base := base) (a := a) F_read_ratio T G_Ratio_text b_Ratio_text G_Ratio___init__ b_Ratio___init__ d_Ratio___init__ G__worth b__worth G__has_figures_alone b__has_figures_alone
    have G_Ratio_of := ok_Ratio_of (P := P) (w := w) (base := base) (a := a) F_Ratio_of T G_init b_init G_read_ratio b_read_ratio
    have G_Point___init__ := ok_Point___init__ (P := P) (w := w) (base := base) (a := a) F_Point___init__ T G_as_ratio b_as_ratio G_is_number b_is_number
    have G_Point_text := ok_Point_text (P := P) (w := w) (base := base) (a := a) F_Point_text T G_Ratio_text b_Ratio_text
    have G_read_point := ok_read_point (P := P) (w := w) (base := base) (a := a) F_read_point T G_Point___init__ b_Point___init__ G_read_ratio b_read_ratio
    have G_Point_of := ok_Point_of (P := P) (w := w) (base := base) (a := a) F_Point_of T G_init b_init G_read_point b_read_point
    have G__law_ratio_text := ok__law_ratio_text (P := P) (w := w) (base := base) (a := a) F__law_ratio_text T
    have G__law_figures := ok__law_figures (P := P) (w := w) (base := base) (a := a) F__law_figures T
    have G__law_read := ok__law_read (P := P) (w := w) (base := base) (a := a) F__law_read T G__law_ratio_text b__law_ratio_text G__law_pair b__law_pair G__law_figures b__law_figures
    have G__law_drawn := ok__law_drawn (P := P) (w := w) (base := base) (a := a) F__law_drawn T G__law_ratio_text b__law_ratio_text G__law_pair b__law_pair G__law_of b__law_of G__law_take b__law_take
    have G__law_bent_text := ok__law_bent_text (P := P) (w := w) (base := base) (a := a) F__law_bent_text T G__law_of b__law_of G__law_take b__law_take
    have G__law_is_ratio_right := ok_ratio_right (P := P) (w := w) (base := base) (a := a) T l__law_is_ratio_right c__law_is_ratio_right (TB (cA__law_is_ratio_right, Pt__law_is_ratio_right) (by simp)) nP l__law_told c__law_told b__law_told G_Ratio_text b_Ratio_text G__law_pair_of b__law_pair_of G__law_read b__law_read G_Ratio_of b_Ratio_of
    have G__law_is_point_right := ok_point_right (P := P) (w := w) (base := base) (a := a) T l__law_is_point_right c__law_is_point_right (TB (cA__law_is_point_right, Pt__law_is_point_right) (by simp)) nP l__law_told c__law_told b__law_told G__law_pair_of b__law_pair_of G_Point_text b_Point_text G__law_read b__law_read G_Point_of b_Point_of
    have G__law_right := ok__law_right (P := P) (w := w) (base := base) (a := a) F__law_right T G__law_is_point_right b__law_is_point_right G__law_is_ratio_right b__law_is_ratio_right G__law_odd b__law_odd G__law_take b__law_take G__law_bent_text b__law_bent_text G__law_drawn b__law_drawn
    exact ok_law (a := a) F_law T G__law_places b__law_places G__law_right b__law_right G__law_pot b__law_pot
end My

open PySem PySem.W PyProof.Rows
local macro_rules | `(tactic| walk_at "k_none") => `(tactic| first | kernel_rfl | rfl | decide +kernel)
set_option maxRecDepth 100000 in
set_option maxHeartbeats 0 in
theorem PySem.Challenge.cw_seenabout_k03_texts_of_ratios_and_points_holds : PySem.Challenge.rw_seenabout_k03_texts_of_ratios_and_points.Holds := by
  w_on; o_law; k_head; (case hw => w_witness2)
  k_fill
  refine G.walkOfT (l := PySem.Challenge.rw_seenabout_k03_texts_of_ratios_and_points) (n := 63) (k := 13) (x := "_law_script") (names := ["_law_is_ratio_right", "_law_is_point_right"]) rfl (by decide) rfl ⟨rfl, by decide, by decide⟩ (by rfl) (fun w h Y => PySem.W.km_in_of Y) ?F
  case F =>
    intro w mg fa h KX G hmg tabs
    refine' My.all_mk KX G hmg (tabs _ (by simp)) (tabs _ (by simp)) ?n_abs ?n_all ?n_any ?n_bool ?n_int ?n_isinstance ?n_len ?n_list ?n_max ?n_min ?n_range ?n_repr ?n_divmod ?n_str ?gP ?gF ?gG ?g_AboutError ?g_BadText ?x_AboutError ?x_BadText ?i0 ?tI ?sp ?tk ?eb ?g_Ratio ?g_Point ?l_init ?c_init ?k_init ?g__law_told ?l__law_told ?c__law_told ?k__law_told ?g__law_pot ?l__law_pot ?c__law_pot ?k__law_pot ?g__law_take ?l__law_take ?c__law_take ?k__law_take ?g__law_of ?l__law_of ?c__law_of ?k__law_of ?g__law_places ?l__law_places ?c__law_places ?k__law_places ?g_is_integer ?l_is_integer ?c_is_integer ?k_is_integer ?g_is_number ?l_is_number ?c_is_number ?k_is_number ?g_Ratio___init__ ?l_Ratio___init__ ?c_Ratio___init__ ?k_Ratio___init__ ?d_Ratio___init__ ?r_Ratio___init__ ?g_as_ratio ?l_as_ratio ?c_as_ratio ?k_as_ratio ?g__law_common ?l__law_common ?c__law_common ?k__law_common ?g__law_pair ?l__law_pair ?c__law_pair ?k__law_pair ?g__law_pair_of ?l__law_pair_of ?c__law_pair_of ?k__law_pair_of ?g__law_odd ?l__law_odd ?c__law_odd ?k__law_odd ?g_written ?l_written ?c_written ?k_written ?g__has_figures_alone ?l__has_figures_alone ?c__has_figures_alone ?k__has_figures_alone ?g__worth ?l__worth ?c__worth ?k__worth ?pa_Ratio ?pb_Ratio ?pc_Ratio ?pd_Ratio ?l_Ratio_text ?c_Ratio_text ?k_Ratio_text ?g_read_ratio ?l_read_ratio ?c_read_ratio ?k_read_ratio ?sc_Ratio ?sd_Ratio ?sa_Ratio ?sb_Ratio ?l_Ratio_of ?c_Ratio_of ?k_Ratio_of ?g_Point___init__ ?l_Point___init__ ?c_Point___init__ ?k_Point___init__ ?pa_Point ?pb_Point ?pc_Point ?pd_Point ?l_Point_text ?c_Point_text ?k_Point_text ?g_read_point ?l_read_point ?c_read_point ?k_read_point ?sc_Point ?sd_Point ?sa_Point ?sb_Point ?l_Point_of ?c_Point_of ?k_Point_of ?g__law_ratio_text ?l__law_ratio_text ?c__law_ratio_text ?k__law_ratio_text ?g__law_figures ?l__law_figures ?c__law_figures ?k__law_figures ?g__law_read ?l__law_read ?c__law_read ?k__law_read ?g__law_drawn ?l__law_drawn ?c__law_drawn ?k__law_drawn ?g__law_bent_text ?l__law_bent_text ?c__law_bent_text ?k__law_bent_text ?g__law_is_ratio_right ?l__law_is_ratio_right ?c__law_is_ratio_right ?k__law_is_ratio_right ?o__law_is_ratio_right ?v__law_is_ratio_right ?t__law_is_ratio_right ?g__law_is_point_right ?l__law_is_point_right ?c__law_is_point_right ?k__law_is_point_right ?o__law_is_point_right ?v__law_is_point_right ?t__law_is_point_right ?g__law_right ?l__law_right ?c__law_right ?k__law_right ?g_law ?l_law ?c_law ?k_law ?ri1 ?ri4 ?ri5 ?ri6 ?ri7 ?ri8 ?cl1 ?cl2 ?cl3 ?cl4 ?mk1 ?mk2 ?mk3 ?cl1P ?cl2P ?cl3P ?cl4P ?mk1P ?mk2P ?mk3P ?nN ?nU ?nX ?nY ?xB ?tB ?nP
    (case n_abs => k_is)
    (case n_all => k_is)
    (case n_any => k_is)
    (case n_bool => k_is)
    (case n_int => k_is)
    (case n_isinstance => k_is)
    (case n_len => k_is)
    (case n_list => k_is)
    (case n_max => k_is)
    (case n_min => k_is)
    (case n_range => k_is)
    (case n_repr => k_is)
    (case n_divmod => k_is)
    (case n_str => k_is)
    (case gP => k_is)
    (case gF => k_is)
    (case gG => k_is)
    (case g_AboutError => k_is)
    (case g_BadText => k_is)
    (case x_AboutError => k_is)
    (case x_BadText => k_is)
    (case i0 => k_is)
    (case tI => k_is)
    (case sp => k_is)
    (case tk => k_is)
    (case eb => kernel_rfl)
    (case g_Ratio => k_is)
    (case g_Point => k_is)
    (case l_init => k_is)
    (case c_init => k_is)
    (case k_init => k_is)
    (case g__law_told => k_is)
    (case l__law_told => k_is)
    (case c__law_told => k_is)
    (case k__law_told => k_is)
    (case g__law_pot => k_is)
    (case l__law_pot => k_is)
    (case c__law_pot => k_is)
    (case k__law_pot => k_is)
    (case g__law_take => k_is)
    (case l__law_take => k_is)
    (case c__law_take => k_is)
    (case k__law_take => k_is)
    (case g__law_of => k_is)
    (case l__law_of => k_is)
    (case c__law_of => k_is)
    (case k__law_of => k_is)
    (case g__law_places => k_is)
    (case l__law_places => k_is)
    (case c__law_places => k_is)
    (case k__law_places => k_is)
    (case g_is_integer => k_is)
    (case l_is_integer => k_is)
    (case c_is_integer => k_is)
    (case k_is_integer => k_is)
    (case g_is_number => k_is)
    (case l_is_number => k_is)
    (case c_is_number => k_is)
    (case k_is_number => k_is)
    (case g_Ratio___init__ => k_is)
    (case l_Ratio___init__ => k_is)
    (case c_Ratio___init__ => k_is)
    (case k_Ratio___init__ => k_is)
    (case d_Ratio___init__ => k_is)
    (case r_Ratio___init__ => first | exact .cons ⟨_, rfl⟩ .nil | exact .cons rfl .nil)
    (case g_as_ratio => k_is)
    (case l_as_ratio => k_is)
    (case c_as_ratio => k_is)
    (case k_as_ratio => k_is)
    (case g__law_common => k_is)
    (case l__law_common => k_is)
    (case c__law_common => k_is)
    (case k__law_common => k_is)
    (case g__law_pair => k_is)
    (case l__law_pair => k_is)
    (case c__law_pair => k_is)
    (case k__law_pair => k_is)
    (case g__law_pair_of => k_is)
    (case l__law_pair_of => k_is)
    (case c__law_pair_of => k_is)
    (case k__law_pair_of => k_is)
    (case g__law_odd => k_is)
    (case l__law_odd => k_is)
    (case c__law_odd => k_is)
    (case k__law_odd => k_is)
    (case g_written => k_is)
    (case l_written => k_is)
    (case c_written => k_is)
    (case k_written => k_is)
    (case g__has_figures_alone => k_is)
    (case l__has_figures_alone => k_is)
    (case c__has_figures_alone => k_is)
    (case k__has_figures_alone => k_is)
    (case g__worth => k_is)
    (case l__worth => k_is)
    (case c__worth => k_is)
    (case k__worth => k_is)
    (case pa_Ratio => k_is)
    (case pb_Ratio => k_is)
    (case pc_Ratio => k_is)
    (case pd_Ratio => k_is)
    (case l_Ratio_text => k_is)
    (case c_Ratio_text => k_is)
    (case k_Ratio_text => k_is)
    (case g_read_ratio => k_is)
    (case l_read_ratio => k_is)
    (case c_read_ratio => k_is)
    (case k_read_ratio => k_is)
    (case sc_Ratio => k_is)
    (case sd_Ratio => k_is)
    (case sa_Ratio => k_is)
    (case sb_Ratio => k_is)
    (case l_Ratio_of => k_is)
    (case c_Ratio_of => k_is)
    (case k_Ratio_of => k_is)
    (case g_Point___init__ => k_is)
    (case l_Point___init__ => k_is)
    (case c_Point___init__ => k_is)
    (case k_Point___init__ => k_is)
    (case pa_Point => k_is)
    (case pb_Point => k_is)
    (case pc_Point => k_is)
    (case pd_Point => k_is)
    (case l_Point_text => k_is)
    (case c_Point_text => k_is)
    (case k_Point_text => k_is)
    (case g_read_point => k_is)
    (case l_read_point => k_is)
    (case c_read_point => k_is)
    (case k_read_point => k_is)
    (case sc_Point => k_is)
    (case sd_Point => k_is)
    (case sa_Point => k_is)
    (case sb_Point => k_is)
    (case l_Point_of => k_is)
    (case c_Point_of => k_is)
    (case k_Point_of => k_is)
    (case g__law_ratio_text => k_is)
    (case l__law_ratio_text => k_is)
    (case c__law_ratio_text => k_is)
    (case k__law_ratio_text => k_is)
    (case g__law_figures => k_is)
    (case l__law_figures => k_is)
    (case c__law_figures => k_is)
    (case k__law_figures => k_is)
    (case g__law_read => k_is)
    (case l__law_read => k_is)
    (case c__law_read => k_is)
    (case k__law_read => k_is)
    (case g__law_drawn => k_is)
    (case l__law_drawn => k_is)
    (case c__law_drawn => k_is)
    (case k__law_drawn => k_is)
    (case g__law_bent_text => k_is)
    (case l__law_bent_text => k_is)
    (case c__law_bent_text => k_is)
    (case k__law_bent_text => k_is)
    (case g__law_is_ratio_right => k_is)
    (case l__law_is_ratio_right => k_is)
    (case c__law_is_ratio_right => k_is)
    (case k__law_is_ratio_right => k_is)
    (case o__law_is_ratio_right => k_is)
    (case v__law_is_ratio_right => rfl)
    (case t__law_is_ratio_right => walk_at "k_none")
    (case g__law_is_point_right => k_is)
    (case l__law_is_point_right => k_is)
    (case c__law_is_point_right => k_is)
    (case k__law_is_point_right => k_is)
    (case o__law_is_point_right => k_is)
    (case v__law_is_point_right => rfl)
    (case t__law_is_point_right => walk_at "k_none")
    (case g__law_right => k_is)
    (case l__law_right => k_is)
    (case c__law_right => k_is)
    (case k__law_right => k_is)
    (case g_law => k_is)
    (case l_law => k_is)
    (case c_law => k_is)
    (case k_law => k_is)
    (case ri1 => k_is)
    (case ri4 => kernel_rfl)
    (case ri5 => kernel_rfl)
    (case ri6 => kernel_rfl)
    (case ri7 => kernel_rfl)
    (case ri8 => kernel_rfl)
    (case cl1 => k_is)
    (case cl2 => k_is)
    (case cl3 => k_is)
    (case cl4 => k_is)
    (case mk1 => k_is)
    (case mk2 => k_is)
    (case mk3 => k_is)
    (case cl1P => k_is)
    (case cl2P => k_is)
    (case cl3P => k_is)
    (case cl4P => k_is)
    (case mk1P => k_is)
    (case mk2P => k_is)
    (case mk3P => k_is)
    (case nN => k_is)
    (case nU => k_is)
    (case nX => k_is)
    (case nY => k_is)
    (case xB => kernel_rfl)
    (case tB => kernel_rfl)
    (case nP => decide)
