import PyProof.Rows.All
import Wide.All
import OpenK.AllK
import Wide.FinOn
import PyProof.ReprRoads
import HandS.Base
import HandS.Call
import HandS.List
import HandS.Ends
import HandS.EndBits
import HandS.Dict
import HandS.Words
import HandS.WordsList
import HandS.IsInst
import HandS.Wide
import HandS.ForMost
import PyProof.StrLawsRepr
import HandS.Exc
import HandS.ExcOwn
import HandS.WordsExc
import HandS.TryMany
import HandS.Strs
import HandS.Conv
import KE.KExcIs
import HandS.SetFor
import HandS.Style
import PySem.Challenge.RW_solvedbothsides_k42_whole_formulas_solve
set_option Elab.async false
set_option maxRecDepth 100000
set_option linter.unusedVariables false
/-! VKit: data over the abstract heap with dicts, repr of such data, defs that know that no repr runs around them -/
namespace VK
open PySem PySem.Spec PyProof.Rows L2

/-! ### data -/
def keyD : Key → PyData
  | .inl i => .int i
  | .inr x => .str x
mutual
inductive Da (H : Hp) : V → PyData → Prop
  | non : Da H .non .none
  | bl (b : Bool) : Da H (.bl b) (.bool b)
  | int (i : Int) : Da H (.int i) (.int i)
  | str (x : Str) : Da H (.str x) (.str x)
  | lst {a : Addr} {xs : List V} {ds : List PyData} : H a = some (.lst xs) → DaAll H xs ds → Da H (.ref a) (.list ds)
  | tup {a : Addr} {xs : List V} {ds : List PyData} : H a = some (.tup xs) → DaAll H xs ds → Da H (.ref a) (.tuple ds)
  | dic {a : Addr} {kvs : List (Key × V)} {ds : List PyData} : H a = some (.dK kvs) → DaAll H (kvs.map (·.2)) ds → Da H (.ref a) (.dict ((kvs.map (fun p => keyD p.1)).zip ds))
inductive DaAll (H : Hp) : List V → List PyData → Prop
  | nil : DaAll H [] []
  | cons {v : V} {vs : List V} {d : PyData} {ds : List PyData} : Da H v d → DaAll H vs ds → DaAll H (v :: vs) (d :: ds)
end
mutual
theorem Da.same {H H' : Hp} (e : Same H H') : ∀ {v : V} {d : PyData}, Da H v d → Da H' v d
  | _, _, .non => .non
  | _, _, .bl b => .bl b
  | _, _, .int i => .int i
  | _, _, .str x => .str x
  | _, _, .lst h r => .lst (e _ _ h) (DaAll.same e r)
  | _, _, .tup h r => .tup (e _ _ h) (DaAll.same e r)
  | _, _, .dic h r => .dic (e _ _ h) (DaAll.same e r)
theorem DaAll.same {H H' : Hp} (e : Same H H') : ∀ {vs : List V} {ds : List PyData}, DaAll H vs ds → DaAll H' vs ds
  | _, _, .nil => .nil
  | _, _, .cons h r => .cons (Da.same e h) (DaAll.same e r)
end
theorem DaAll.length {H : Hp} : ∀ {vs : List V} {ds : List PyData}, DaAll H vs ds → vs.length = ds.length
  | _, _, .nil => rfl
  | _, _, .cons _ r => congrArg (· + 1) r.length
theorem DaAll.append {H : Hp} : ∀ {vs ws : List V} {ds es : List PyData}, DaAll H vs ds → DaAll H ws es → DaAll H (vs ++ ws) (ds ++ es)
  | _, _, _, _, .nil, s => s
  | _, _, _, _, .cons h r, s => .cons h (r.append s)
theorem DaAll.get {H : Hp} : ∀ {vs : List V} {ds : List PyData} {i : Nat} {d : PyData}, DaAll H vs ds → ds[i]? = some d → ∃ v, vs[i]? = some v ∧ Da H v d
  | _, _, _, _, .nil, e => by simp at e
  | _, _, 0, _, .cons h _, e => ⟨_, rfl, by have e' := Option.some.inj e; rw [← e']; exact h⟩
  | _, _, i + 1, _, .cons _ r, e => DaAll.get (i := i) r e
theorem DaAll.getv {H : Hp} : ∀ {vs : List V} {ds : List PyData} {i : Nat} {v : V}, DaAll H vs ds → vs[i]? = some v → ∃ d, ds[i]? = some d ∧ Da H v d
  | _, _, _, _, .nil, e => by simp at e
  | _, _, 0, _, .cons h _, e => ⟨_, rfl, by have e' := Option.some.inj e; rw [← e']; exact h⟩
  | _, _, i + 1, _, .cons _ r, e => DaAll.getv (i := i) r e
/-! ### what is read of it in the machine's heap -/
theorem kv_vals {kvs : List (Key × V)} {vs : List (Key × Value)} (r : KV kvs vs) : Vals (kvs.map (·.2)) (vs.map (·.2)) ∧ kvs.map (·.1) = vs.map (·.1) := by
  induction r with
  | nil => exact ⟨.nil, rfl⟩
  | cons h _ ih => exact ⟨.cons h.2 ih.1, by rw [List.map_cons, List.map_cons, h.1, ih.2]⟩
end VK
namespace VK
open PySem PySem.Spec PyProof.Rows L2
section
variable {prog : Program} {w : World} {h : Heap}
theorem pairs_reads : ∀ {es : List DictEntry} {kvs : List (Key × Value)}, Pairs (mixKind prog w) es kvs → ReadsAll h (es.map (·.key)) (kvs.map fun p => keyD p.1) [] ∧ es.map (·.val) = kvs.map (·.2)
  | _, _, .nil => ⟨.nil, rfl⟩
  | _, _, .cons (kv := kv) hk hv r => by
    obtain ⟨r1, r2⟩ := pairs_reads r
    obtain ⟨k, v⟩ := kv
    refine ⟨?_, ?_⟩
    · rcases keyIs_shape hk with ⟨i, t, e1, e2⟩ | ⟨x, t, e1, e2⟩
      · have e1' : k = .inl i := e1
        subst e1'
        rw [List.map_cons, List.map_cons, e2]
        exact ReadsAll.cons (as := []) (.int i t) r1
      · have e1' : k = .inr x := e1
        subst e1'
        rw [List.map_cons, List.map_cons, e2]
        exact ReadsAll.cons (as := []) (.str x t) r1
    · rw [List.map_cons, List.map_cons, hv, r2]
end
theorem zip_fst {α β : Type} : ∀ {xs : List α} {ys : List β}, xs.length = ys.length → (xs.zip ys).map (·.1) = xs
  | [], [], _ => rfl
  | x :: xs, y :: ys, e => by
    show x :: (xs.zip ys).map (·.1) = x :: xs
    rw [zip_fst (Nat.succ.inj e)]
theorem zip_snd {α β : Type} : ∀ {xs : List α} {ys : List β}, xs.length = ys.length → (xs.zip ys).map (·.2) = ys
  | [], [], _ => rfl
  | x :: xs, y :: ys, e => by
    show y :: (xs.zip ys).map (·.2) = y :: ys
    rw [zip_snd (Nat.succ.inj e)]
section
variable {X : Cx} {pins : List (Addr × Obj)} {σ : L2.St} {H : Hp} {s : Shared}
mutual
theorem Da.reads (I : Inv X pins σ H s) : ∀ {v : V} {d : PyData} {u : Value}, Da H v d → RelV v u → ∃ as, Reads s.heap u d as ∧ ∀ a ∈ as, H a ≠ none
  | _, _, _, .non, r => by
    cases (show _ = Value.none from r)
    exact ⟨_, .none, fun _ z => nomatch z⟩
  | _, _, _, .bl b, r => by
    cases (show _ = Value.bool b from r)
    exact ⟨_, .bool b, fun _ z => nomatch z⟩
  | _, _, _, .int i, r => by
    obtain ⟨t, rfl⟩ := r
    exact ⟨_, .int i t, fun _ z => nomatch z⟩
  | _, _, _, .str x, r => by
    obtain ⟨t, rfl⟩ := r
    exact ⟨_, .str x t, fun _ z => nomatch z⟩
  | _, _, _, .lst (a := a) e q, r => by
    cases (show _ = Value.ref a from r)
    obtain ⟨_, its, n, rv, ho⟩ := I.hok _ _ e
    obtain ⟨as, hr, hn⟩ := DaAll.reads I q rv
    refine ⟨_, Reads.list ho rfl rfl hr, fun b hb => ?_⟩
    rcases List.mem_cons.mp hb with z | z
    · rw [z, e]; simp
    · exact hn b z
  | _, _, _, .tup (a := a) e q, r => by
    cases (show _ = Value.ref a from r)
    obtain ⟨_, its, rv, o, ho, hc, n, hd⟩ := I.hok _ _ e
    obtain ⟨as, hr, hn⟩ := DaAll.reads I q rv
    exact ⟨_, Reads.tuple ho hc hd hr, hn⟩
  | _, _, _, .dic (a := a) (kvs := kvs) (ds := ds) e q, r => by
    cases (show _ = Value.ref a from r)
    obtain ⟨_, _, vs, rel, o, es, ep, ho, hx, hd, _, hp, _⟩ := I.hok _ _ e
    obtain ⟨rv, ek⟩ := kv_vals rel
    obtain ⟨r1, ev⟩ := pairs_reads (h := s.heap) hp
    obtain ⟨as, hr, hn⟩ := DaAll.reads I q rv
    have hl : (kvs.map (fun p => keyD p.1)).length = ds.length := by
      rw [List.length_map, ← q.length, List.length_map]
    have ek2 : (vs.map fun p => keyD p.1) = kvs.map fun p => keyD p.1 := by
      have e1 := congrArg (List.map keyD) ek
      rw [List.map_map, List.map_map] at e1
      exact e1.symm
    refine ⟨_, Reads.dict ho hx.1 hd (as := []) (bs := as) ?_ ?_, fun b hb => ?_⟩
    · rw [zip_fst hl, ← ek2]
      exact r1
    · rw [zip_snd hl, ev]
      exact hr
    · rcases List.mem_cons.mp (show b ∈ a :: ([] ++ as) from hb) with z | z
      · rw [z, e]; simp
      · exact hn b z
theorem DaAll.reads (I : Inv X pins σ H s) : ∀ {vs : List V} {ds : List PyData} {us : List Value}, DaAll H vs ds → Vals vs us → ∃ as, ReadsAll s.heap us ds as ∧ ∀ a ∈ as, H a ≠ none
  | _, _, _, .nil, r => by
    cases r
    exact ⟨_, .nil, fun _ z => nomatch z⟩
  | _, _, _, .cons h q, r => by
    cases r with
    | cons r1 r2 =>
      obtain ⟨as, a1, a2⟩ := Da.reads I h r1
      obtain ⟨bs, b1, b2⟩ := DaAll.reads I q r2
      refine ⟨_, .cons a1 b1, fun b hb => ?_⟩
      rcases List.mem_append.mp hb with z | z
      · exact a2 b z
      · exact b2 b z
end
/-- repr of data -/
def rRepr : List V → Hp → VK → Prop := fun xs H Q => ∃ v d, xs = [v] ∧ Da H v d ∧ d.showable = true ∧ d.depth ≤ 100 ∧ d.shown.length ≤ sizeLine ∧ Q (.str d.shown) H
theorem call_repr (hg : X.A.guards = some []) (hu : X.A.units + 150 < cLine) (hs : ∃ o, X.base.get? sysModules = some o) : CallR X (.builtin "repr") rRepr := by
  intro pins s σ H xs us Q I r h
  obtain ⟨v, d, rfl, hd, h1, h2, h3, q⟩ := h
  obtain ⟨u, rfl, ru⟩ := vals1 r
  obtain ⟨o, ho⟩ := hs
  have hsys : H sysModules = none := (I.bs _ _ ho).2
  have nsys : ∀ {as : List Addr}, (∀ a ∈ as, H a ≠ none) → sysModules ∉ as := fun z hm => z _ hm hsys
  cases hd with
  | non =>
    cases (show u = Value.none from ru)
    exact P.repr_of_none ⟨.str _, H, I.tok _, ⟨_, rfl⟩, by simpa only [PyData.shown] using q⟩
  | bl b =>
    cases (show u = Value.bool b from ru)
    exact P.repr_of_bool ⟨.str _, H, I.tok _, ⟨_, rfl⟩, by simpa only [PyData.shown] using q⟩
  | int i =>
    obtain ⟨t, rfl⟩ := ru
    exact P.repr_of_int (by simpa [PyData.showable] using h1) ⟨.str _, H, I.tok _, ⟨_, rfl⟩, by simpa only [PyData.shown] using q⟩
  | str x =>
    obtain ⟨t, rfl⟩ := ru
    exact P.repr_of_str ⟨.str _, H, I.tok _, ⟨_, rfl⟩, by simpa only [PyData.shown] using q⟩ (by simpa only [PyData.shown] using h3)
  | lst e w =>
    cases (show u = Value.ref _ from ru)
    obtain ⟨as, hr, hn⟩ := Da.reads I (.lst e w) rfl
    exact repr_of_reads' hr h1 (fun _ => nsys hn) hg (by omega) (fun _ _ z => z) (fun h' u tk k => ⟨.str _, H, I.kept k, ⟨_, rfl⟩, q⟩) h3
  | tup e w =>
    cases (show u = Value.ref _ from ru)
    obtain ⟨as, hr, hn⟩ := Da.reads I (.tup e w) rfl
    exact repr_of_reads' hr h1 (fun _ => nsys hn) hg (by omega) (fun _ _ z => z) (fun h' u tk k => ⟨.str _, H, I.kept k, ⟨_, rfl⟩, q⟩) h3
  | dic e w =>
    cases (show u = Value.ref _ from ru)
    obtain ⟨as, hr, hn⟩ := Da.reads I (.dic e w) rfl
    exact repr_of_reads' hr h1 (fun _ => nsys hn) hg (by omega) (fun _ _ z => z) (fun h' u tk k => ⟨.str _, H, I.kept k, ⟨_, rfl⟩, q⟩) h3
end
end VK
namespace VK
open PySem PySem.Spec PyProof.Rows L2
/-! ### defs around which no repr runs (the guards are known to be none) -/
section
variable (P : Program) (w : World) (K : PySem.W.Frag) (mg : Str → Option Value) (base : Heap) (CX : CXT)
structure FnG (k : Nat) (f : Addr) (fd : FuncData) (ps : List Str) (sp : Sp) : Prop where
  args : ∀ vs H Q E, sp vs H Q E → vs.length = ps.length
  go : ∀ {A : Around} {outer : List Env} {s : Shared} {H : Hp} {a : Args} {us : List Value} {vs : List V} {Q : VK} {E : XK},
    A.guards = some [] → Room k A → Env0 P w K mg base A outer s H → BindsTo s fd a (ps.zip us) → Vals vs us → sp vs H Q E →
    codeAny (model P w) A (.call (.ref f) a) (CR CX outer P w H s Q E) s
end
section
variable {P : Program} {w : World} {K : PySem.W.Frag} {mg : Str → Option Value} {base : Heap} {CX : CXT}
theorem FnG.of {k : Nat} {f : Addr} {fd : FuncData} {ps : List Str} {sp : Sp} (F : FnOk P w K mg base CX k f fd ps sp) : FnG P w K mg base CX k f fd ps sp :=
  ⟨F.len, fun _ r e b v h => F.run _ _ _ _ _ _ _ _ _ r e b v h⟩
theorem FnG.mono {j k : Nat} {f : Addr} {fd : FuncData} {ps : List Str} {sp : Sp} (F : FnG P w K mg base CX j f fd ps sp) (h : j ≤ k) : FnG P w K mg base CX k f fd ps sp :=
  ⟨F.args, fun g r e b v q => F.go g (r.mono h) e b v q⟩
theorem okG {x qual : Str} {st : Stmt} {f : Addr} {fd : FuncData} {N ps : List Str} {k : Nat} {sp : Sp} (F : Fun K x qual st f fd) (S : FnScope N ps (defScope st))
    (ln : ∀ vs H Q E, sp vs H Q E → vs.length = ps.length)
    (body : ∀ (cdv : Value) (A : Around) (outer : List Env) (s : Shared) (H : Hp) (vs : List V) (Q : VK) (E : XK),
      A.guards = some [] → Room k (A.deeper (envOfC qual (defScope st) s.heap.objs.size f cdv)) → sp vs H Q E →
      ∃ t, PSs (cxOf CX0 P w K mg base N qual (defScope st) f cdv A outer s H E).nox (defBody st) t ∧ t { nx := fun _ H' => Q .non H', rt := Q } (start N vs) H) :
    FnG P w K mg base CX0 (k + 1) f fd ps sp := by
  obtain ⟨oc, od, kV, doc, pm, an, cdv, ct, osl, e, lk, hcd⟩ := F.ex
  subst e
  refine ⟨ln, ?_⟩
  intro A outer s H a us vs Q E gA room ev bd rel sps
  have inK := ev.mod.kin.keeps fun b o z => (ev.bs b o z).1
  have nolim := ev.mod.nolimit.keeps fun b o z => (ev.bs b o z).1
  have lens := ln _ _ _ _ sps
  have kinds : ∀ y ∈ ps.zip us, (defScope st).names.lookup y.1 = some .local ∨
      ((defScope st).names.lookup y.1 = some .cell ∧ ((cellsFrom (s.heap.objs.size + 1) (defScope st).names []).lookup y.1).isSome = true) := by
    intro y hy
    have hm : y.1 ∈ ps := (List.of_mem_zip (show (y.1, y.2) ∈ ps.zip us from hy)).1
    exact (S.par y.1 hm).imp _root_.id fun z => ⟨z, PySem.W.cellsFrom_some _ _ _ (.inl z)⟩
  refine codeAny_call_function room.depth (inK _ _ lk) rfl S.co S.gen rfl (PySem.W.codeRec_of inK hcd) (bd _ _ _ _ ?_)
  refine wpAny_newFunctionEnv_cells S.kind kinds ?_
  rintro env rfl s1 inC
  refine ⟨nolim.keeps inC.toInCall.keep, codeAny_func ?_⟩
  obtain ⟨t, ht, hq⟩ := body cdv A outer s H vs Q E gA (room.deeper _) sps
  have J := inv_start (CX := CX0) (mg := mg) (base := base) (E := E) S room.hd ev lens rel inC
  refine wpAny_mono (ht.nox.run [] s1 (start N vs) H _ J hq) ?_ fun _ _ z => z
  intro fl s' hs
  match fl, hs with
  | .ret u, hs => obtain ⟨v, σ', H', J', rv, q⟩ := hs; exact ⟨v, H', J'.os, J'.bare, J'.base, J'.hok, rv, q⟩
  | .next, hs => obtain ⟨σ', H', J', q⟩ := hs; exact ⟨.non, H', J'.os, J'.bare, J'.base, J'.hok, rfl, q⟩
  | .brk, hs => obtain ⟨_, _, _, q⟩ := hs; exact q.elim
  | .cont, hs => obtain ⟨_, _, _, q⟩ := hs; exact q.elim
end
section
variable {X : Cx} {CX : CXT} {k : Nat} {f : Addr} {fd : FuncData} {ps : List Str} {sp : Sp} {dvs : List V} {ds : List Value} {E : XK} {x : Str} {p pos : Pos} {e : Expr} {es : List Expr} {t : TA}
/-- f(e, ..), f such a def -/
theorem pe_callG (hga : X.A.guards = some []) (F : FnG X.prog X.w X.K X.mg X.base CX k f fd ps sp) (room : Room k X.A) (gl : Gl X x) (at_ : X.mg x = some (.ref f)) (kp : PySem.W.keepIn X.K (.ref f) = true) (bd : Binds X.K fd ps ds) (dv : Vals dvs ds) (pa : Passes CX X E)
    (args : PA X (e :: es) t) (nd : (x == ("__debug__" : Str)) = false := by decide) (st : starEach (e :: es) X.env = (false, eval e X.env) :: starEach es X.env := by rfl) (pl : (backTo pos (starEach es X.env)).any (·.1) = false := by rfl) :
    PE X (.Call (.Name x p) (e :: es) [] pos) (tCall sp dvs E t) := by
  constructor
  intro pins s σ H Q I h
  refine wpAny_Call_Name_kw (ld_glob I gl at_ ?_ nd)
  refine PySem.W.callWith_K (h₀ := X.base) I.ok.mod.kin kp (thn (args.run pos pins s σ H _ I h) ?_) st pl
  intro us s1 ⟨vs, H1, I1, r, q⟩
  refine ⟨I1.kIn, ?_⟩
  have rel : Vals (vs ++ dvs) (us ++ ds) := r.append dv
  have hl : (us ++ ds).length = ps.length := rel.length.symm.trans (F.args _ _ _ _ q)
  refine wpAny_call (codeAny_mono (F.go hga room I1.env0 (bd s1 us I1.kIn hl) rel q) ?_)
  intro r s' hq
  match r, hq with
  | .error e, hq => exact pa pins σ H1 s1 e s' I1 hq
  | .ok (.ret u), hq => exact I1.after hq
  | .ok .next, hq => exact hq.elim
  | .ok .brk, hq => exact hq.elim
  | .ok .cont, hq => exact hq.elim
end
end VK
namespace VK
open PySem PySem.Spec PyProof.Rows L2
/-! ### the end of a law whose def is such a one -/
section
variable {P : Program} {w : World} {K : PySem.W.Frag} {mg mb : Str → Option Value} {k : Nat} {fa a : Addr} {fd : FuncData} {x : Str} {sp : Sp} {s₁ : Shared} {vs : List Value} {ns : List Int}
def Done (s₁ : Shared) (r : Result) (s' : Shared) : Prop := r = .ok (.ret (.bool true)) ∧ OldK s₁.heap s'.heap ∧ s'.os = s₁.os ∧ AllBare s'.gens
/-- over one abstract heap: only the script may stand in it -/
theorem end_core (KX : K.In s₁.heap) (hns : s₁.heap.Ns mainGlobals mg) (hb : s₁.heap.Ns builtinsNs mb) (hbb : ∀ y : Str, y ≠ "__name__" → mb y = bootBuiltins y) (hlim : s₁.heap.NoLimit) (hg : s₁.gens = #[])
    (ha : s₁.heap.get? a = some { cls := .type "list", data := .seq vs.toArray }) (room : Room k callerA)
    (hm : ∃ m, s₁.heap.Ns sysModules m) (F : ∀ base : Heap, K.In base → base.Ns mainGlobals mg → (∃ o, base.get? sysModules = some o) → FnG P w K mg base CX0 k fa fd [x] sp) (bd : ∀ (s : Shared) (u : Value), BindsTo s fd ⟨[u], []⟩ [(x, u)])
    {H : Hp} (hO : Only H) (hsp : sp [.ref a] H (fun v _ => v = .bl true) fun _ _ _ => False) (hok : HOk P w H s₁.heap) (hA : ∀ b, H b ≠ none → b = a) (hK : H a ≠ none → K.lookup a = none) :
    codeAny (model P w) callerA (.call (.ref fa) ⟨[.ref a], []⟩) (Done s₁) s₁ := by
  have at_a : ∀ {b u}, H b = some u → b = a := fun z => hA _ (by rw [z]; exact fun q => nomatch q)
  have none_of_dict : ∀ {b o es ep}, s₁.heap.get? b = some o → o.data = Data.dict es ep → H b = none := by
    intro b o es ep e d
    match q : H b with
    | none => rfl
    | some u =>
      rw [at_a q, ha] at e
      cases e
      cases (show Data.seq vs.toArray _ = Data.dict es ep from d)
  have ns_ : ∀ {b m}, s₁.heap.Ns b m → (hidT s₁.heap H).Ns b m := by
    rintro b m ⟨o, es, ep, e, d, r⟩
    exact ⟨o, es, ep, hidT_get e (none_of_dict e d), d, r⟩
  have kin_ : K.In (hidT s₁.heap H) := by
    intro b o e
    refine hidT_get (KX b o e) ?_
    match q : H b with
    | none => rfl
    | some u =>
      have z := at_a q
      subst z
      rw [hK (by rw [q]; exact fun z => nomatch z)] at e
      cases e
  obtain ⟨mc, l1, l2⟩ := hlim
  have ev : Env0 P w K mg (hidT s₁.heap H) callerA [] s₁ H :=
    { frames := rfl, mod := ⟨kin_, ns_ hns, ⟨mb, ns_ hb, hbb⟩, ⟨mc, ns_ l1, l2⟩⟩, bs := fun b o e => of_hidT e, bsz := Nat.le_of_eq (hidT_size _ _), funs := trivial, frf := (fun b z => nomatch (show b ∈ ([] : List Addr) from z)), hok := hok, bare := .of_eq hg }
  have sysB : ∃ o, (hidT s₁.heap H).get? sysModules = some o := by
    obtain ⟨m, z⟩ := hm
    obtain ⟨o, es, ep, e, _⟩ := ns_ z
    exact ⟨o, e⟩
  refine codeAny_mono ((F _ kin_ (ns_ hns) sysB).go (us := [.ref a]) (vs := [.ref a]) rfl room ev (bd s₁ (.ref a)) (.cons rfl .nil) hsp) ?_
  intro r s' h
  match r, h with
  | .error e, h => exact h.elim
  | .ok .next, h => exact h.elim
  | .ok .brk, h => exact h.elim
  | .ok .cont, h => exact h.elim
  | .ok (.ret u), h =>
    obtain ⟨v, H', os, bare, un, hok', rv, q⟩ := h
    cases (show v = .bl true from q)
    cases (show u = Value.bool true from rv)
    refine ⟨rfl, OldK.of_keep ?_, os, bare⟩
    intro b o e
    match q : H b with
    | none => exact un.keep b o e q (fun z => nomatch (show b ∈ ([] : List Addr) from z)) (fun z => nomatch z)
    | some u =>
      rcases hO b with z | z
      · rw [q] at z
        cases z
      · obtain ⟨ob, xs, z⟩ := z
        have e1 := (hok b _ z).1
        rw [e] at e1
        cases e1
        exact (hok' b _ (un.frzs b _ _ z)).1
theorem end_call (KX : K.In s₁.heap) (hns : s₁.heap.Ns mainGlobals mg) (hb : s₁.heap.Ns builtinsNs mb) (hbb : ∀ y : Str, y ≠ "__name__" → mb y = bootBuiltins y) (hlim : s₁.heap.NoLimit) (hg : s₁.gens = #[])
    (ha : s₁.heap.get? a = some { cls := .type "list", data := .seq vs.toArray }) (hi : IntsAre vs ns) (hl : ns.length ≤ sizeLine) (room : Room k callerA)
    (hm : ∃ m, s₁.heap.Ns sysModules m) (F : ∀ base : Heap, K.In base → base.Ns mainGlobals mg → (∃ o, base.get? sysModules = some o) → FnG P w K mg base CX0 k fa fd [x] sp) (bd : ∀ (s : Shared) (u : Value), BindsTo s fd ⟨[u], []⟩ [(x, u)])
    (hsp : ∀ H : Hp, Only H → SqL K H a (ns.map V.int) → sp [.ref a] H (fun v _ => v = .bl true) fun _ _ _ => False) :
    codeAny (model P w) callerA (.call (.ref fa) ⟨[.ref a], []⟩) (Done s₁) s₁ := by
  have rv := vals_ints hi
  have lv := hi.length
  match hk : K.lookup a with
  | some o =>
    have e := KX a o hk
    rw [ha] at e
    cases e
    have o0 : Only fun _ => none := fun _ => .inl rfl
    refine end_core KX hns hb hbb hlim hg ha room hm F bd o0 (hsp _ o0 (.inr ⟨_, vs.toArray, _, hk, rfl, rfl, rfl, ?_, by simpa using rv⟩)) ?_ (fun b z => absurd rfl z) fun z => absurd rfl z
    · rw [List.size_toArray, lv]
      exact hl
    · intro b u z
      cases (show (none : Option HO) = some u from z)
  | none =>
    have o1 : Only fun b => if b = a then some (.frz { cls := .type "list", data := .seq vs.toArray } (.lst (ns.map V.int))) else none := fun b => by
      by_cases z : b = a
      · exact .inr ⟨_, _, if_pos z⟩
      · exact .inl (if_neg z)
    refine end_core KX hns hb hbb hlim hg ha room hm F bd o1 (hsp _ o1 (.inl (.inr ⟨_, if_pos rfl⟩))) ?_ ?_ fun _ => hk
    · intro b u z
      by_cases hz : b = a
      · cases (if_pos hz).symm.trans z
        subst hz
        exact ⟨ha, by rw [List.length_map]; exact hl, vs, _, rv, ha⟩
      · cases (if_neg hz).symm.trans z
    · intro b z
      by_cases hz : b = a
      · exact hz
      · exact absurd (if_neg hz) z
end
/-- walk_ofB for such a law -/
theorem walk_g {l : PySem.W.OpenLaw} {n k : Nat} {q : Program} {loose : List Str} {XP : (Str → Option Value) → Heap → Prop} {YP : World → Heap → Prop} {d : DefRec} {K : Params → PySem.W.Frag} {sp : World → Sp} {x : Str}
    (hq : importsNone q = true) (hn : l.most = some n) (hn2 : n ≤ sizeLine) (hdf : d.params.defaults = []) (room : Room k callerA) (hY : ∀ (w : World) (h : Heap), YP w h → (K w.params).In h)
    (F : ∀ (w : World) (mg : Str → Option Value) (fa : Addr) (h : Heap), (K w.params).In h → h.Ns mainGlobals mg → mg d.name = some (.ref fa) →
      ∃ fd : FuncData, (∀ (s : Shared) (u : Value), BindsTo s fd ⟨[u], []⟩ [(x, u)]) ∧
        ∀ base : Heap, (K w.params).In base → base.Ns mainGlobals mg → (∃ o, base.get? sysModules = some o) → FnG l.prog w (K w.params) mg base CX0 k fa fd [x] (sp w))
    (hsp : ∀ (w : World) (H : Hp) (a : Addr) (ns : List Int), ns.length ≤ n → (∀ z ∈ ns, Builtin.Int.intBits z ≤ 1048576) → Only H → SqL (K w.params) H a (ns.map V.int) → sp w [.ref a] H (fun v _ => v = .bl true) fun _ _ _ => False) :
    PySem.W.WalkO q loose XP YP l.row.toRowW d [] (fun f vs => PySem.call f vs) := by
  refine Att.attach_callB hn hdf ?_
  intro w s₀ s₁ mg mb fa o pm cd doc a vs ns G Y ho hd hcd hmg hobj hints hlen hbits hg
  obtain ⟨fd, hb, hF⟩ := F w mg fa _ (hY w _ Y) G.T.g hmg
  exact end_call (hY w _ Y) G.T.g G.T.b G.T.builtins G.T.nolimit hg hobj hints (Nat.le_trans hlen hn2) room ((G.T.seer hq).mods.imp fun _ z => z.1) hF hb fun H hO hS => hsp w H a ns hlen hbits hO hS
end VK
namespace VK
open PySem PySem.Spec PyProof.Rows L2
/-! ### displays of written values and of names whose values are known data -/
abbrev Env1 := List (Nat × PyData)
mutual
inductive Lit (N : List Str) (sc : Scope) (ρ : Env1) : Expr → PyData → Prop
  | non {j p} : Lit N sc ρ (.Constant .none j p) .none
  | bl {b j p} : Lit N sc ρ (.Constant (.bool b) j p) (.bool b)
  | int {i j p} : Lit N sc ρ (.Constant (.int i) j p) (.int i)
  | str {x j p} : Lit N sc ρ (.Constant (.str x) j p) (.str x)
  | neg {e i p} : Lit N sc ρ e (.int i) → Lit N sc ρ (.UnaryOp .USub e p) (.int (-i))
  | pow {e f i j p} : Lit N sc ρ e (.int i) → Lit N sc ρ f (.int j) → CPow i j → Lit N sc ρ (.BinOp e .Pow f p) (.int (i ^ j.toNat))
  | add {e f i j p} : Lit N sc ρ e (.int i) → Lit N sc ρ f (.int j) → Lit N sc ρ (.BinOp e .Add f p) (.int (i + j))
  | sub {e f i j p} : Lit N sc ρ e (.int i) → Lit N sc ρ f (.int j) → Lit N sc ρ (.BinOp e .Sub f p) (.int (i - j))
  | tup {es ds k p} : LitAll N sc ρ es ds → ds.length ≤ 1000 → Lit N sc ρ (.Tuple es k p) (.tuple ds)
  | lst {es ds p} : LitAll N sc ρ es ds → ds.length ≤ 1000 → Lit N sc ρ (.List es p) (.list ds)
  | dic0 {p} : Lit N sc ρ (.Dict [] [] p) (.dict [])
  | dic1 {x e i j p p'} : Lit N sc ρ e (.int i) → Lit N sc ρ (.Dict [some (.Constant (.str x) j p')] [e] p) (.dict [(.str x, .int i)])
  | var {x d p} (i : Nat) : N[i]? = some x → Vis sc x → (i, d) ∈ ρ → (x == ("__debug__" : Str)) = false → (x == ("__classdict__" : Str)) = false → Lit N sc ρ (.Name x p) d
inductive LitAll (N : List Str) (sc : Scope) (ρ : Env1) : List Expr → List PyData → Prop
  | nil : LitAll N sc ρ [] []
  | cons {e es d ds} : Lit N sc ρ e d → LitAll N sc ρ es ds → LitAll N sc ρ (e :: es) (d :: ds)
end
/-- the slots of ρ hold these data -/
def Holds1 (ρ : Env1) (σ : L2.St) (H : Hp) : Prop := ∀ p ∈ ρ, ∃ v, σ[p.1]? = some (some v) ∧ Da H v p.2
theorem Holds1.same {ρ : Env1} {σ : L2.St} {H H' : Hp} (h : Holds1 ρ σ H) (e : Same H H') : Holds1 ρ σ H' := fun p hp => by
  obtain ⟨v, e1, e2⟩ := h p hp
  exact ⟨v, e1, e2.same e⟩
/-- G, and what is new behind H -/
def plus (G H H' : Hp) : Hp := fun a => match G a with
  | some o => some o
  | none => match H a with
    | some _ => none
    | none => H' a
def tLit (ρ : Env1) (d : PyData) : TE := fun σ H Q => ∃ G, Same G H ∧ Holds1 ρ σ G ∧ ∀ v H', Same H H' → Da (plus G H H') v d → Q v H'
def tLits (ρ : Env1) (ds : List PyData) : TA := fun σ H Q => ∃ G, Same G H ∧ Holds1 ρ σ G ∧ ∀ vs H', Same H H' → DaAll (plus G H H') vs ds → Q vs H'
theorem plus_cases {G H H' : Hp} {a : Addr} {o : HO} (h : plus G H H' a = some o) : G a = some o ∨ (G a = none ∧ H a = none ∧ H' a = some o) := by
  unfold plus at h
  cases g : G a with
  | some u =>
    rw [g] at h
    exact .inl h
  | none =>
    rw [g] at h
    cases z : H a with
    | some u =>
      rw [z] at h
      cases h
    | none =>
      rw [z] at h
      exact .inr ⟨rfl, rfl, h⟩
theorem plus_old {G H H' : Hp} {a : Addr} {o : HO} (h : G a = some o) : plus G H H' a = some o := by
  unfold plus
  rw [h]
theorem plus_new {G H H' : Hp} {a : Addr} {o : HO} (g : G a = none) (z : H a = none) (h : H' a = some o) : plus G H H' a = some o := by
  unfold plus
  rw [g, z]
  exact h
theorem plus_refl {G H : Hp} : Same G (plus G H H) := fun _ _ h => plus_old h
theorem plus_mono {G H H1 H2 : Hp} (s : Same H1 H2) : Same (plus G H H1) (plus G H H2) := fun a o h => by
  rcases plus_cases h with z | ⟨z1, z2, z3⟩
  · exact plus_old z
  · exact plus_new z1 z2 (s _ _ z3)
theorem plus_later {G H H1 H2 : Hp} (s : Same H H1) : Same (plus G H1 H2) (plus G H H2) := fun a o h => by
  rcases plus_cases h with z | ⟨z1, z2, z3⟩
  · exact plus_old z
  · exact plus_new z1 (s.free z2) z3
theorem plus_in {G H H' : Hp} (g : Same G H) (s : Same H H') : Same (plus G H H') H' := fun a o h => by
  rcases plus_cases h with z | ⟨_, _, z3⟩
  · exact s _ _ (g _ _ z)
  · exact z3
theorem plus_at {G H H' : Hp} {p : Addr} {o : HO} (g : Same G H) (s : Same H H') (np : H' p = none) : plus G H (upd H' p o) p = some o := plus_new (g.free (s.free np)) (s.free np) upd_same
theorem same_new {H : Hp} {p : Addr} {o : HO} (h : H p = none) : Same H (upd H p o) := fun b u q => by
  rw [upd_ne (ne_of_none q h)]
  exact q
theorem PE.imp {X : Cx} {e : Expr} {t t' : TE} (h : PE X e t) (i : ∀ σ H Q, t' σ H Q → t σ H Q) : PE X e t' := ⟨fun pins s σ H Q I q => h.run pins s σ H Q I (i σ H Q q)⟩
theorem PA.imp {X : Cx} {es : List Expr} {t t' : TA} (h : PA X es t) (i : ∀ σ H Q, t' σ H Q → t σ H Q) : PA X es t' := ⟨fun pos pins s σ H Q I q => h.run pos pins s σ H Q I (i σ H Q q)⟩
theorem Da.int_inv {H : Hp} {v : V} {i : Int} (h : Da H v (.int i)) : v = .int i := by
  cases h
  rfl
mutual
theorem pe_lit {X : Cx} {ρ : Env1} : ∀ {e : Expr} {d : PyData}, Lit X.N X.env.scope ρ e d → PE X e (tLit ρ d)
  | _, _, .non => PE.imp pe_non fun σ H Q ⟨G, _, _, q⟩ => q _ _ (Same.refl H) .non
  | _, _, .bl => PE.imp pe_bl fun σ H Q ⟨G, _, _, q⟩ => q _ _ (Same.refl H) (.bl _)
  | _, _, .int => PE.imp pe_int fun σ H Q ⟨G, _, _, q⟩ => q _ _ (Same.refl H) (.int _)
  | _, _, .str => PE.imp pe_str fun σ H Q ⟨G, _, _, q⟩ => q _ _ (Same.refl H) (.str _)
  | _, _, .neg h => PE.imp (pe_un un_neg (pe_lit h)) fun σ H Q ⟨G, g, hl, q⟩ => ⟨G, g, hl, fun v H' s d => ⟨_, d.int_inv, q _ _ s (.int _)⟩⟩
  | _, _, .pow h1 h2 c => PE.imp (pe_op op_pow (pe_lit h1) (pe_lit h2)) fun σ H Q ⟨G, g, hl, q⟩ => ⟨G, g, hl, fun v H' s d => ⟨G, g.trans s, hl, fun v2 H2 s2 d2 => ⟨_, _, d.int_inv, d2.int_inv, c, q _ _ (s.trans s2) (.int _)⟩⟩⟩
  | _, _, .add h1 h2 => PE.imp (pe_op op_add (pe_lit h1) (pe_lit h2)) fun σ H Q ⟨G, g, hl, q⟩ => ⟨G, g, hl, fun v H' s d => ⟨G, g.trans s, hl, fun v2 H2 s2 d2 => ⟨_, _, d.int_inv, d2.int_inv, q _ _ (s.trans s2) (.int _)⟩⟩⟩
  | _, _, .sub h1 h2 => PE.imp (pe_op op_sub (pe_lit h1) (pe_lit h2)) fun σ H Q ⟨G, g, hl, q⟩ => ⟨G, g, hl, fun v H' s d => ⟨G, g.trans s, hl, fun v2 H2 s2 d2 => ⟨_, _, d.int_inv, d2.int_inv, q _ _ (s.trans s2) (.int _)⟩⟩⟩
  | _, _, .tup h z => PE.imp (pe_tup (pa_lit h)) fun σ H Q ⟨G, g, hl, q⟩ => ⟨G, g, hl, fun vs H' s d => ⟨by rw [d.length]; exact Nat.le_of_lt (small1000 z), fun p np => q _ _ (s.trans (same_new np)) (.tup (plus_at g s np) (d.same (plus_mono (same_new np))))⟩⟩
  | _, _, .lst h z => PE.imp (pe_lst (pa_lit h)) fun σ H Q ⟨G, g, hl, q⟩ => ⟨G, g, hl, fun vs H' s d => ⟨by rw [d.length]; exact Nat.le_of_lt (small1000 z), fun p np => q _ _ (s.trans (same_new np)) (.lst (plus_at g s np) (d.same (plus_mono (same_new np))))⟩⟩
  | _, _, .dic0 => PE.imp pe_dnewK fun σ H Q ⟨G, g, hl, q⟩ => fun p np => q _ _ (same_new np) (.dic (kvs := []) (ds := []) (plus_at g (Same.refl H) np) .nil)
  | _, _, .dic1 (x := x) (i := i) h => PE.imp (pe_disp (pps_cons pe_str (pe_lit h) pps_nil) rfl rfl (fun z => nomatch z) (by simp)) fun σ H Q ⟨G, g, hl, q⟩ => fun p np =>
      ⟨G, g.trans (same_new np), hl, fun v H' s dv => by
        refine ⟨s _ _ upd_same, [(.inr x, v)], rfl, Nat.le_of_ble_eq_true rfl, ?_⟩
        have s2 : Same H (upd H' p (.dK (mergeK [] [(.inr x, v)]))) := fun b o e => by
          rw [upd_ne (ne_of_none e np)]
          exact s _ _ (same_new np _ _ e)
        have ev := dv.int_inv
        subst ev
        exact q _ _ s2 (.dic (kvs := [(.inr x, .int i)]) (ds := [.int i]) (plus_new (g.free np) np upd_same) (.cons (.int i) .nil))⟩
  | _, _, .var i hN hv hm h1 h2 => PE.imp (pe_var hN hv h1 h2) fun σ H Q ⟨G, g, hl, q⟩ => by
      obtain ⟨v, e1, e2⟩ := hl _ hm
      exact ⟨v, e1, q _ _ (Same.refl H) (e2.same plus_refl)⟩
theorem pa_lit {X : Cx} {ρ : Env1} : ∀ {es : List Expr} {ds : List PyData}, LitAll X.N X.env.scope ρ es ds → PA X es (tLits ρ ds)
  | _, _, .nil => PA.imp pa_nil fun σ H Q ⟨G, g, hl, q⟩ => q _ _ (Same.refl H) .nil
  | _, _, .cons h hs => PA.imp (pa_cons (pe_lit h) (pa_lit hs) (by cases h <;> rfl)) fun σ H Q ⟨G, g, hl, q⟩ =>
      ⟨G, g, hl, fun v H' s d => ⟨G, g.trans s, hl, fun vs H2 s2 ds2 => q _ _ (s.trans s2) (.cons (d.same (plus_mono s2)) (ds2.same (plus_later s)))⟩⟩
end
end VK
namespace VK
open PySem PySem.Spec PyProof.Rows L2
/-! ### isinstance of data -/
def kindD : PyData → String
  | .none => "NoneType"
  | .bool _ => "bool"
  | .int _ => "int"
  | .str _ => "str"
  | .list _ => "list"
  | .tuple _ => "tuple"
  | .dict _ => "dict"
theorem kind_of {K : PySem.W.Frag} {H : Hp} {v : V} {d : PyData} (h : Da H v d) : TyX K H v (.type (kindD d)) := by
  cases h with
  | non => exact .base .non
  | bl b => exact .base (.bl b)
  | int i => exact .base (.int i)
  | str x => exact .base (.str x)
  | lst e _ => exact .base (.lst e)
  | tup e _ => exact .base (.tup e)
  | dic e _ => exact .base (.dK e)
def isI : PyData → Bool
  | .int _ => true
  | .bool _ => true
  | _ => false
def isBo : PyData → Bool
  | .bool _ => true
  | _ => false
def isT : PyData → Bool
  | .tuple _ => true
  | _ => false
def isS : PyData → Bool
  | .str _ => true
  | _ => false
def isL : PyData → Bool
  | .list _ => true
  | _ => false
theorem kit_int (d : PyData) : kitB (kindD d) "int" = some (isI d) := by cases d <;> (dsimp only [kindD, isI]; decide +kernel)
theorem kit_bool (d : PyData) : kitB (kindD d) "bool" = some (isBo d) := by cases d <;> (dsimp only [kindD, isBo]; decide +kernel)
theorem kit_tuple (d : PyData) : kitB (kindD d) "tuple" = some (isT d) := by cases d <;> (dsimp only [kindD, isT]; decide +kernel)
theorem kit_str (d : PyData) : kitB (kindD d) "str" = some (isS d) := by cases d <;> (dsimp only [kindD, isS]; decide +kernel)
theorem kit_list (d : PyData) : kitB (kindD d) "list" = some (isL d) := by cases d <;> (dsimp only [kindD, isL]; decide +kernel)
def rIsD : List V → Hp → VK → Prop := fun xs H Q => ∃ v d n b, xs = [v, .ty n] ∧ Da H v d ∧ kitB (kindD d) n = some b ∧ Q (.bl b) H
theorem call_isD {X : Cx} : CallR X (.builtin "isinstance") rIsD := by
  intro pins s σ H xs us Q I r h
  obtain ⟨v, d, n, b, rfl, hd, hk, q⟩ := h
  exact call_isi pins s σ H _ us Q I r ⟨v, .ty n, _, _, b, rfl, .ty n, kind_of hd, kit_ty hk, q⟩

/-! ### defs by name -/
structure DefAt (K : PySem.W.Frag) (mg : Str → Option Value) (x : Str) (st : Stmt) (ps : List Str) : Prop where
  ex : ∃ f fd, Fun K x x st f fd ∧ Binds K fd ps [] ∧ mg x = some (.ref f)
structure CalG (P : Program) (w : World) (K : PySem.W.Frag) (mg : Str → Option Value) (base : Heap) (k : Nat) (x : Str) (sp : Sp) : Prop where
  ex : ∃ f fd ps, FnG P w K mg base CX0 k f fd ps sp ∧ mg x = some (.ref f) ∧ PySem.W.keepIn K (.ref f) = true ∧ Binds K fd ps []
theorem CalG.imp {P w K mg base k x} {sp sp' : Sp} (c : CalG P w K mg base k x sp) (h : ∀ vs H Q E, sp' vs H Q E → sp vs H Q E) : CalG P w K mg base k x sp' := by
  obtain ⟨f, fd, ps, F, m, kp, b⟩ := c.ex
  exact ⟨f, fd, ps, ⟨fun vs H Q E z => F.args vs H Q E (h _ _ _ _ z), fun g r e bd v z => F.go g r e bd v (h _ _ _ _ z)⟩, m, kp, b⟩
theorem pe_cg {X : Cx} {k j : Nat} {x : Str} {p pos : Pos} {e : Expr} {es : List Expr} {t : TA} {sp : Sp} (c : CalG X.prog X.w X.K X.mg X.base k x sp) (hga : X.A.guards = some []) (room : Room j X.A) (hk : k ≤ j) (gl : Gl X x)
    (args : PA X (e :: es) t) (nd : (x == ("__debug__" : Str)) = false := by decide) (st : starEach (e :: es) X.env = (false, eval e X.env) :: starEach es X.env := by rfl) (pl : (backTo pos (starEach es X.env)).any (·.1) = false := by rfl) :
    PE X (.Call (.Name x p) (e :: es) [] pos) (tCall sp [] E0 t) := by
  obtain ⟨f, fd, ps, F, m, kp, b⟩ := c.ex
  exact pe_callG hga F (room.mono hk) gl m kp b .nil pass0 args nd st pl
theorem def_ok {P : Program} {w : World} {K : PySem.W.Frag} {mg : Str → Option Value} {base : Heap} {x : Str} {st : Stmt} {N ps : List Str} {k : Nat} {sp : Sp} (D : DefAt K mg x st ps) (S : FnScope N ps (defScope st))
    (ln : ∀ vs H Q E, sp vs H Q E → vs.length = ps.length)
    (body : ∀ (f : Addr) (cdv : Value) (A : Around) (outer : List Env) (s : Shared) (H : Hp) (vs : List V) (Q : VK) (E : XK),
      A.guards = some [] → Room k (A.deeper (envOfC x (defScope st) s.heap.objs.size f cdv)) → sp vs H Q E →
      ∃ t, PSs (cxOf CX0 P w K mg base N x (defScope st) f cdv A outer s H E).nox (defBody st) t ∧ t { nx := fun _ H' => Q .non H', rt := Q } (start N vs) H) :
    CalG P w K mg base (k + 1) x sp := by
  obtain ⟨f, fd, F, b, m⟩ := D.ex
  exact ⟨f, fd, ps, okG F S ln (body f), m, F.kp, b⟩
/-- nothing can be asked with no call left -/
theorem none_left {P : Program} {w : World} {K : PySem.W.Frag} {mg : Str → Option Value} {base : Heap} {x : Str} {st : Stmt} {ps : List Str} {sp : Sp} (D : DefAt K mg x st ps) (no : ∀ vs H Q E, ¬ sp vs H Q E) : CalG P w K mg base 0 x sp := by
  obtain ⟨f, fd, F, b, m⟩ := D.ex
  exact ⟨f, fd, ps, ⟨fun vs H Q E z => (no _ _ _ _ z).elim, fun _ _ _ _ _ z => (no _ _ _ _ z).elim⟩, m, F.kp, b⟩

/-! ### a bag of draws at b, all else as it was -/
def off (b : Addr) (H : Hp) : Hp := fun a => if a = b then none else H a
def Keep (b : Addr) (H H' : Hp) : Prop := Same (off b H) (off b H')
theorem off_get {b a : Addr} {H : Hp} {o : HO} (h : off b H a = some o) : a ≠ b ∧ H a = some o := by
  unfold off at h
  by_cases e : a = b
  · rw [if_pos e] at h
    cases h
  · rw [if_neg e] at h
    exact ⟨e, h⟩
theorem off_put {b a : Addr} {H : Hp} {o : HO} (n : a ≠ b) (h : H a = some o) : off b H a = some o := by
  unfold off
  rw [if_neg n]
  exact h
theorem off_same {b : Addr} {H : Hp} : Same (off b H) H := fun _ _ h => (off_get h).2
theorem Keep.refl (b : Addr) (H : Hp) : Keep b H H := Same.refl _
theorem Keep.trans {b : Addr} {H H1 H2 : Hp} (x : Keep b H H1) (y : Keep b H1 H2) : Keep b H H2 := Same.trans x y
theorem Keep.of {b : Addr} {H H' : Hp} (s : Same H H') : Keep b H H' := fun a o h => off_put (off_get h).1 (s _ _ (off_get h).2)
theorem Keep.at {b : Addr} {H : Hp} {o : HO} : Keep b H (upd H b o) := fun a u h => off_put (off_get h).1 (by rw [upd_ne (off_get h).1]; exact (off_get h).2)
def BagAt (b : Addr) (H : Hp) : Prop := ∃ g s n : Int, H b = some (.lst [.int g, .int s, .int n]) ∧ 0 ≤ g ∧ 0 ≤ s ∧ s < 2305843009213693952 ∧ 0 ≤ n
theorem BagAt.same {b : Addr} {H H' : Hp} (h : BagAt b H) (s : Same H H') : BagAt b H' := by
  obtain ⟨g, x, n, e, r⟩ := h
  exact ⟨g, x, n, s _ _ e, r⟩
/-- what is new beside a bag is off it -/
theorem off_new {b p : Addr} {H : Hp} {o : HO} (h : BagAt b H) (np : H p = none) : off b (upd H p o) p = some o := by
  obtain ⟨g, x, n, e, r⟩ := h
  exact off_put (fun z => by rw [z, e] at np; cases np) upd_same
/-- data that were made beside a bag are off it -/
def spDraw : Sp := fun vs H Q _ => ∃ b m, vs = [.ref b, .int m] ∧ BagAt b H ∧ 0 < m ∧ m < 1073741824 ∧ ∀ d H', Keep b H H' → BagAt b H' → 0 ≤ d → d < m → Q (.int d) H'
def spPick : Sp := fun vs H Q _ => ∃ b v ds, vs = [.ref b, v] ∧ BagAt b H ∧ Da (off b H) v (.list ds) ∧ ds ≠ [] ∧ ds.length ≤ 1000 ∧ ∀ r d H', Keep b H H' → BagAt b H' → d ∈ ds → Da (off b H') r d → Q r H'
end VK
namespace VK
open PySem PySem.Spec PyProof.Rows L2
theorem Da.tup_inv {H : Hp} {v : V} {ds : List PyData} (h : Da H v (.tuple ds)) : ∃ a xs, v = .ref a ∧ H a = some (.tup xs) ∧ DaAll H xs ds := by
  cases h with
  | tup e r => exact ⟨_, _, rfl, e, r⟩
theorem Da.lst_inv {H : Hp} {v : V} {ds : List PyData} (h : Da H v (.list ds)) : ∃ a xs, v = .ref a ∧ H a = some (.lst xs) ∧ DaAll H xs ds := by
  cases h with
  | lst e r => exact ⟨_, _, rfl, e, r⟩
theorem Da.str_inv {H : Hp} {v : V} {x : Str} (h : Da H v (.str x)) : v = .str x := by
  cases h
  rfl
end VK
namespace VK
open PySem PySem.Spec PyProof.Rows L2
/-- what was made beside a bag of data off it is off it -/
theorem plus_off {b : Addr} {H H' : Hp} (h : BagAt b H) (s : Same H H') : Same (plus (off b H) H H') (off b H') := fun a o e => by
  rcases plus_cases e with z | ⟨_, z2, z3⟩
  · exact off_put (off_get z).1 (s _ _ (off_get z).2)
  · obtain ⟨g, x, n, eb, _⟩ := h
    exact off_put (fun w => by rw [w, eb] at z2; cases z2) z3
theorem lit_off {b : Addr} {H H' : Hp} {v : V} {d : PyData} (h : BagAt b H) (s : Same H H') (x : Da (plus (off b H) H H') v d) : Da (off b H') v d := x.same (plus_off h s)
end VK

/-! VKit2: how deep and how long data are, as repr shows them -/
namespace VK
open PySem PySem.Spec PyProof.Rows L2
def lowS (x : Str) : Bool := x.cps.toList.all fun c => decide (c < 128)
theorem low_app {x y : Str} (hx : lowS x = true) (hy : lowS y = true) : lowS (x ++ y) = true := by
  unfold lowS at *
  rw [show (x ++ y).cps = x.cps ++ y.cps from rfl, Array.toList_append, List.all_append, hx, hy]
  rfl
theorem low_join {sep : Str} (hs : lowS sep = true) : ∀ {ts : List Str}, ts.all lowS = true → lowS (Str.join sep ts) = true
  | [], _ => rfl
  | [x], h => by
    have z : (lowS x && true) = true := h
    rw [Bool.and_true] at z
    exact z
  | x :: y :: r, h => by
    rw [List.all_cons, Bool.and_eq_true] at h
    exact low_app (low_app h.1 hs) (low_join hs h.2)
theorem low_tup {ts : List Str} (h : ts.all lowS = true) : lowS (tupleText ts) = true := by
  unfold tupleText
  refine low_app (low_app rfl (low_join rfl h)) ?_
  by_cases z : (ts.length == 1) = true
  · rw [if_pos z]
    rfl
  · rw [if_neg z]
    rfl
theorem len_tup : ∀ ts : List Str, (tupleText ts).length ≤ (ts.map fun t => t.length + 2).sum + 3 := by
  intro ts
  have j : ∀ ts : List Str, (Str.join ", " ts).length ≤ (ts.map fun t => t.length + 2).sum := by
    intro ts
    induction ts with
    | nil => exact Nat.zero_le _
    | cons x r ih =>
      cases r with
      | nil =>
        show x.length ≤ x.length + 2 + 0
        omega
      | cons y r =>
        rw [List.map_cons, List.sum_cons]
        show (x ++ ", " ++ Str.join ", " (y :: r)).length ≤ _
        rw [strLen_append, strLen_append]
        have e2 : ((", " : String) : Str).length = 2 := rfl
        rw [e2]
        omega
  unfold tupleText
  rw [strLen_append, strLen_append]
  have e1 : (("(" : String) : Str).length = 1 := rfl
  have := j ts
  by_cases z : (ts.length == 1) = true
  · rw [if_pos z, e1]
    have e2 : ((",)" : String) : Str).length = 2 := rfl
    rw [e2]
    omega
  · rw [if_neg z, e1]
    have e2 : ((")" : String) : Str).length = 1 := rfl
    rw [e2]
    omega
theorem len_tup3 (x y z : Str) : (tupleText [x, y, z]).length = x.length + y.length + z.length + 6 := by
  show (("(" : Str) ++ (x ++ ", " ++ (y ++ ", " ++ z)) ++ ")").length = _
  rw [strLen_append, strLen_append, strLen_append, strLen_append, strLen_append, strLen_append]
  have e1 : (("(" : String) : Str).length = 1 := rfl
  have e2 : ((")" : String) : Str).length = 1 := rfl
  have e3 : ((", " : String) : Str).length = 2 := rfl
  rw [e1, e2, e3]
  omega
theorem len_from : ∀ (ts : List Str) (k : Nat) (acc : Str), (textFrom k acc ts).length ≤ acc.length + (ts.map fun t => t.length + 2).sum
  | [], k, acc => Nat.le_refl _
  | t :: r, k, acc => by
    have h := len_from r (k + 1) (acc ++ (if k > 0 then ", " else "" : String) ++ t)
    have e : (acc ++ (if k > 0 then ", " else "" : String) ++ t).length ≤ acc.length + 2 + t.length := by
      rw [strLen_append, strLen_append]
      by_cases z : k > 0
      · rw [if_pos z]
        exact Nat.le_refl _
      · rw [if_neg z]
        have e0 : (("" : String) : Str).length = 0 := rfl
        rw [e0]
        omega
    rw [List.map_cons, List.sum_cons]
    show (textFrom (k + 1) (acc ++ (if k > 0 then ", " else "" : String) ++ t) r).length ≤ _
    omega
theorem len_lst (ts : List Str) : (listText ts).length ≤ (ts.map fun t => t.length + 2).sum + 2 := by
  unfold listText
  rw [strLen_append]
  have h := len_from ts 0 "["
  have e1 : (("[" : String) : Str).length = 1 := rfl
  have e2 : (("]" : String) : Str).length = 1 := rfl
  rw [e1] at h
  rw [e2]
  omega
def FitB (h L : Nat) (d : PyData) : Bool := d.showable && (decide (d.depth ≤ h) && (decide (d.shown.length ≤ L) && lowS d.shown))
structure Fit (h L : Nat) (d : PyData) : Prop where
  sh : d.showable = true
  dp : d.depth ≤ h
  ln : d.shown.length ≤ L
  lo : lowS d.shown = true
theorem fit_of {h L : Nat} {d : PyData} (z : FitB h L d = true) : Fit h L d := by
  unfold FitB at z
  rw [Bool.and_eq_true, Bool.and_eq_true, Bool.and_eq_true] at z
  exact ⟨z.1, of_decide_eq_true z.2.1, of_decide_eq_true z.2.2.1, z.2.2.2⟩
theorem fit_all {h L : Nat} {ds : List PyData} (z : ds.all (FitB h L) = true) : ∀ d ∈ ds, Fit h L d := fun d hd => fit_of (List.all_eq_true.mp z d hd)
theorem Fit.mono {h L h' L' : Nat} {d : PyData} (z : Fit h L d) (a : h ≤ h') (b : L ≤ L') : Fit h' L' d := ⟨z.sh, Nat.le_trans z.dp a, Nat.le_trans z.ln b, z.lo⟩
theorem fit_small : ∀ n : Nat, n < 100 → FitB 0 2 (.int n) = true := by decide +kernel
theorem fit_int {i : Int} (h0 : 0 ≤ i) (h1 : i < 100) : Fit 0 2 (.int i) := by
  have z := fit_small i.toNat (by omega)
  rw [show ((i.toNat : Nat) : Int) = i by omega] at z
  exact fit_of z
theorem Fit.tup3 {h L1 L2 L3 : Nat} {a b c : PyData} (x : Fit h L1 a) (y : Fit h L2 b) (z : Fit h L3 c) : Fit (h + 1) (L1 + L2 + L3 + 6) (.tuple [a, b, c]) := by
  refine ⟨?_, ?_, ?_, ?_⟩
  · simp only [PyData.showable, PyData.showableAll, x.sh, y.sh, z.sh, Bool.and_self]
  · have h1 := x.dp
    have h2 := y.dp
    have h3 := z.dp
    simp only [PyData.depth, PyData.depthAll]
    omega
  · have h1 := x.ln
    have h2 := y.ln
    have h3 := z.ln
    simp only [PyData.shown, PyData.shownAll]
    rw [len_tup3]
    omega
  · simp only [PyData.shown, PyData.shownAll]
    refine low_tup ?_
    rw [List.all_cons, List.all_cons, List.all_cons, x.lo, y.lo, z.lo]
    rfl
theorem all_shown {h L : Nat} : ∀ {ds : List PyData}, (∀ d ∈ ds, Fit h L d) → PyData.showableAll ds = true ∧ PyData.depthAll ds ≤ h ∧ ((PyData.shownAll ds).map fun t => t.length + 2).sum ≤ ds.length * (L + 2) ∧ (PyData.shownAll ds).all lowS = true
  | [], _ => ⟨by simp only [PyData.showableAll], by simp only [PyData.depthAll]; exact Nat.zero_le _, by simp only [PyData.shownAll]; exact Nat.zero_le _, by simp only [PyData.shownAll]; rfl⟩
  | d :: ds, q => by
    have z := q d List.mem_cons_self
    obtain ⟨h1, h2, h3, h4⟩ := all_shown (ds := ds) fun e he => q e (List.mem_cons_of_mem _ he)
    have z1 := z.dp
    have z2 := z.ln
    refine ⟨by simp only [PyData.showableAll, z.sh, h1, Bool.and_self], by simp only [PyData.depthAll]; omega, ?_, by simp only [PyData.shownAll, List.all_cons, z.lo, h4, Bool.and_self]⟩
    simp only [PyData.shownAll, List.map_cons, List.sum_cons, List.length_cons]
    rw [Nat.succ_mul]
    omega
theorem Fit.tupAll {h L : Nat} {ds : List PyData} (q : ∀ d ∈ ds, Fit h L d) : Fit (h + 1) (ds.length * (L + 2) + 3) (.tuple ds) := by
  obtain ⟨h1, h2, h3, h4⟩ := all_shown q
  refine ⟨by simp only [PyData.showable]; exact h1, by simp only [PyData.depth]; omega, ?_, by simp only [PyData.shown]; exact low_tup h4⟩
  simp only [PyData.shown]
  have := len_tup (PyData.shownAll ds)
  omega
theorem low_from : ∀ (ts : List Str) (k : Nat) (acc : Str), lowS acc = true → ts.all lowS = true → lowS (textFrom k acc ts) = true
  | [], _, _, h, _ => h
  | t :: r, k, acc, h, q => by
    rw [List.all_cons, Bool.and_eq_true] at q
    refine low_from r (k + 1) _ (low_app (low_app h ?_) q.1) q.2
    by_cases z : k > 0
    · rw [if_pos z]
      rfl
    · rw [if_neg z]
      rfl
theorem Fit.lstAll {h L : Nat} {ds : List PyData} (q : ∀ d ∈ ds, Fit h L d) : Fit (h + 1) (ds.length * (L + 2) + 2) (.list ds) := by
  obtain ⟨h1, h2, h3, h4⟩ := all_shown q
  refine ⟨by simp only [PyData.showable]; exact h1, by simp only [PyData.depth]; omega, ?_, by simp only [PyData.shown]; exact low_app (low_from _ 0 _ rfl h4) rfl⟩
  simp only [PyData.shown]
  have := len_lst (PyData.shownAll ds)
  omega
/-- what repr of a list with texts in it asks: no look at the signs that it shows -/
structure Fit0 (h L : Nat) (d : PyData) : Prop where
  sh : d.showable = true
  dp : d.depth ≤ h
  ln : d.shown.length ≤ L
theorem Fit.to0 {h L : Nat} {d : PyData} (z : Fit h L d) : Fit0 h L d := ⟨z.sh, z.dp, z.ln⟩
theorem Fit0.mono {h L h' L' : Nat} {d : PyData} (z : Fit0 h L d) (a : h ≤ h') (b : L ≤ L') : Fit0 h' L' d := ⟨z.sh, Nat.le_trans z.dp a, Nat.le_trans z.ln b⟩
theorem fit0_str {x : Str} {L : Nat} (h : lowS x = true) (z : x.length ≤ L) : Fit0 0 (10 * L + 2) (.str x) := by
  refine ⟨by simp only [PyData.showable], by simp only [PyData.depth]; exact Nat.le_refl _, ?_⟩
  simp only [PyData.shown]
  have q := StrLaws.reprText_len x fun c hc => by
    have z := of_decide_eq_true (List.all_eq_true.mp h c hc)
    exact Nat.lt_trans z (by decide)
  omega
theorem Fit0.lstAll {h L : Nat} : ∀ {ds : List PyData}, (∀ d ∈ ds, Fit0 h L d) → Fit0 (h + 1) (ds.length * (L + 2) + 2) (.list ds) := by
  intro ds q
  have r : PyData.showableAll ds = true ∧ PyData.depthAll ds ≤ h ∧ ((PyData.shownAll ds).map fun t => t.length + 2).sum ≤ ds.length * (L + 2) := by
    induction ds with
    | nil => exact ⟨by simp only [PyData.showableAll], by simp only [PyData.depthAll]; exact Nat.zero_le _, by simp only [PyData.shownAll]; exact Nat.zero_le _⟩
    | cons d ds ih =>
      have z := q d List.mem_cons_self
      obtain ⟨h1, h2, h3⟩ := ih fun e he => q e (List.mem_cons_of_mem _ he)
      have z1 := z.dp
      have z2 := z.ln
      refine ⟨by simp only [PyData.showableAll, z.sh, h1, Bool.and_self], by simp only [PyData.depthAll]; omega, ?_⟩
      simp only [PyData.shownAll, List.map_cons, List.sum_cons, List.length_cons]
      rw [Nat.succ_mul]
      omega
  refine ⟨by simp only [PyData.showable]; exact r.1, by simp only [PyData.depth]; omega, ?_⟩
  simp only [PyData.shown]
  have := len_lst (PyData.shownAll ds)
  omega
end VK
namespace VK
open PySem PySem.Spec PyProof.Rows L2
theorem low_split {x y : Str} (h : lowS (x ++ y) = true) : lowS x = true ∧ lowS y = true := by
  unfold lowS at *
  rw [show (x ++ y).cps = x.cps ++ y.cps from rfl, Array.toList_append, List.all_append, Bool.and_eq_true] at h
  exact h
theorem Fit.parts {h L : Nat} {a b c : PyData} (f : Fit h L (.tuple [a, b, c])) : Fit a.depth a.shown.length a ∧ Fit b.depth b.shown.length b ∧ Fit c.depth c.shown.length c := by
  have sh := f.sh
  simp only [PyData.showable, PyData.showableAll, Bool.and_true, Bool.and_eq_true] at sh
  have lo := f.lo
  simp only [PyData.shown, PyData.shownAll] at lo
  have lo2 : lowS (("(" : Str) ++ (a.shown ++ ", " ++ (b.shown ++ ", " ++ c.shown)) ++ ")") = true := lo
  have l1 := (low_split (low_split lo2).1).2
  have l2 := (low_split (low_split l1).1).1
  have l3 := (low_split l1).2
  exact ⟨⟨sh.1, Nat.le_refl _, Nat.le_refl _, l2⟩, ⟨sh.2.1, Nat.le_refl _, Nat.le_refl _, (low_split (low_split l3).1).1⟩, ⟨sh.2.2, Nat.le_refl _, Nat.le_refl _, (low_split l3).2⟩⟩
end VK

/-! VKit3: a call that does not see one list of the caller's -/
namespace VK
open PySem PySem.Spec PyProof.Rows L2
section
variable {X : Cx} {pins : List (Addr × Obj)} {σ : L2.St} {H H' : Hp} {s s' : Shared} {D : Addr} {acc : List V}
theorem Inv.hide (I : Inv X pins σ H s) (hD : H D = some (.lst acc)) : Inv X pins σ (off D H) s := by
  have low : ∀ b, H b = none → off D H b = none := fun b e => by
    unfold off
    by_cases z : b = D
    · rw [if_pos z]
    · rw [if_neg z]
      exact e
  have ne : ∀ {b o}, H b = some o → o ≠ .lst acc → b ≠ D := fun e n z => by
    rw [z, hD] at e
    exact n (Option.some.inj e).symm
  refine ⟨I.ok, I.os, I.bare, ⟨I.base.keep, I.base.slot, ?_, I.base.there, ?_, ?_, ?_⟩, I.loc, I.cell, low _ I.free, fun x c e => low _ (I.freeC x c e), fun p hp => ?_, fun b o e => ?_, I.len⟩
  · exact fun b o e n hx => low _ (I.base.free b o e n hx)
  · exact fun b xs e => off_put (ne (I.base.tups b xs e) (fun z => nomatch z)) (I.base.tups b xs e)
  · exact fun b o u e => off_put (ne (I.base.frzs b o u e) (fun z => nomatch z)) (I.base.frzs b o u e)
  · intro b ps e
    obtain ⟨m, em⟩ := I.base.tbls b ps e
    exact ⟨m, off_put (ne em (fun z => nomatch z)) em⟩
  · obtain ⟨e, n, r⟩ := I.pin p hp
    exact ⟨e, low _ n, r⟩
  · obtain ⟨nb, e⟩ := off_get e
    refine (I.hok b o e).stay (fun c u _ q => q) (fun c q => off_put (ne q (fun z => nomatch z)) q) fun c xs q => off_put (ne q (fun z => nomatch z)) q
theorem Inv.show (I : Inv X pins σ H s) (hD : H D = some (.lst acc)) (J : Inv X pins σ H' s') (hn : H' D = none) (k : ∀ o, s.heap.get? D = some o → s'.heap.get? D = some o) : Inv X pins σ (upd H' D (.lst acc)) s' := by
  have ne0 : ∀ {b : Addr}, H b = none → b ≠ D := fun e z => by
    rw [z, hD] at e
    cases e
  refine ⟨J.ok, J.os, J.bare, ⟨J.base.keep, J.base.slot, ?_, J.base.there, ?_, ?_, ?_⟩, J.loc, J.cell, ?_, fun x c e => ?_, fun p hp => ?_, fun b o e => ?_, J.len⟩
  · intro b o e n hx
    rw [upd_ne (ne0 (I.base.free b o e n hx))]
    exact J.base.free b o e n hx
  · intro b xs e
    have z := J.base.tups b xs e
    rw [upd_ne (ne_of_none z hn)]
    exact z
  · intro b o u e
    have z := J.base.frzs b o u e
    rw [upd_ne (ne_of_none z hn)]
    exact z
  · intro b ps e
    obtain ⟨m, z⟩ := J.base.tbls b ps e
    exact ⟨m, by rw [upd_ne (ne_of_none z hn)]; exact z⟩
  · rw [upd_ne (ne0 I.free)]
    exact J.free
  · rw [upd_ne (ne0 (I.freeC x c e))]
    exact J.freeC x c e
  · obtain ⟨e, n, r⟩ := J.pin p hp
    obtain ⟨_, n2, _⟩ := I.pin p hp
    exact ⟨e, by rw [upd_ne (ne0 n2)]; exact n, r⟩
  · by_cases z : b = D
    · subst z
      rw [upd_same] at e
      cases e
      obtain ⟨a1, its, n, a2, a3⟩ := I.hok b _ hD
      exact ⟨a1, its, n, a2, k _ a3⟩
    · rw [upd_ne z] at e
      refine (J.hok b o e).stay (fun c u _ q => q) (fun c q => ?_) fun c xs q => ?_
      · rw [upd_ne (ne_of_none q hn)]
        exact q
      · rw [upd_ne (ne_of_none q hn)]
        exact q
end
def tCallF (sp : Sp) (t : TA) : TE := fun σ H Q => t σ H fun vs H1 => ∃ D acc, H1 D = some (.lst acc) ∧ sp vs (off D H1) (fun v H2 => H2 D = none → Q v (upd H2 D (.lst acc))) E0
theorem pe_cgF {X : Cx} {k j : Nat} {x : Str} {p pos : Pos} {e : Expr} {es : List Expr} {t : TA} {sp : Sp} (c : CalG X.prog X.w X.K X.mg X.base k x sp) (hga : X.A.guards = some []) (room : Room j X.A) (hk : k ≤ j) (gl : Gl X x)
    (args : PA X (e :: es) t) (nd : (x == ("__debug__" : Str)) = false := by decide) (st : starEach (e :: es) X.env = (false, eval e X.env) :: starEach es X.env := by rfl) (pl : (backTo pos (starEach es X.env)).any (·.1) = false := by rfl) :
    PE X (.Call (.Name x p) (e :: es) [] pos) (tCallF sp t) := by
  obtain ⟨f, fd, ps, F, m, kp, b⟩ := c.ex
  constructor
  intro pins s σ H Q I h
  refine wpAny_Call_Name_kw (ld_glob I gl m ?_ nd)
  refine PySem.W.callWith_K (h₀ := X.base) I.ok.mod.kin kp (thn (args.run pos pins s σ H _ I h) ?_) st pl
  intro us s1 ⟨vs, H1, I1, r, D, acc, hD, q⟩
  refine ⟨I1.kIn, ?_⟩
  have J1 := Inv.hide I1 hD
  have rel : Vals (vs ++ []) (us ++ []) := r.append .nil
  have q' : sp (vs ++ []) (off D H1) (fun v H2 => H2 D = none → Q v (upd H2 D (.lst acc))) E0 := by
    rw [List.append_nil]
    exact q
  have hl : (us ++ []).length = ps.length := rel.length.symm.trans (F.args _ _ _ _ q')
  refine wpAny_call (codeAny_mono (F.go hga (room.mono hk) J1.env0 (b s1 us J1.kIn hl) rel q') ?_)
  intro r' s' hq
  match r', hq with
  | .error e, hq => exact hq.elim
  | .ok .next, hq => exact hq.elim
  | .ok .brk, hq => exact hq.elim
  | .ok .cont, hq => exact hq.elim
  | .ok (.ret u), hq =>
    have hq' := hq
    obtain ⟨v, H2, os, bare, un, hok, rv, qq⟩ := hq'
    have offD : off D H1 D = none := by
      unfold off
      rw [if_pos rfl]
    obtain ⟨a1, its, n, a2, a3⟩ := I1.hok D _ hD
    have notfr : D ∉ frs X.stack := fun z => by
      have e0 := I1.stkFree D z
      rw [hD] at e0
      cases e0
    have kD : s'.heap.get? D = some { cls := .type "list", data := .seq its.toArray n } := un.keep D _ a3 offD notfr (fun z => nomatch z)
    have hn : H2 D = none := un.free D _ a3 offD (fun z => nomatch z)
    obtain ⟨v', H2', J2, rv', q2⟩ := J1.after (Q := fun v' H' => v' = v ∧ H' = H2) ⟨v, H2, os, bare, un, hok, rv, rfl, rfl⟩
    obtain ⟨rfl, rfl⟩ := q2
    refine ⟨v', upd H2' D (.lst acc), Inv.show I1 hD J2 hn (fun o e => ?_), rv', qq hn⟩
    rw [a3] at e
    rw [← Option.some.inj e]
    exact kD
end VK

/-! VKit4: defs that raise, own errors with one field, isinstance of a caught one, the place of an item in a tuple -/
namespace PySem
namespace NmX
open PySem.W PySem.Calls PyProof.Rows PySem.HandSPX
def iA (p1 p2 : Pos) : Arguments := { posonlyargs := [], args := [{ arg := "self", annotation := none, pos := p1 }, { arg := "name", annotation := none, pos := p2 }], vararg := none, kwonlyargs := [], kw_defaults := [], kwarg := none, defaults := [] }
def iB (q1 q2 q3 q4 : Pos) : List Stmt := [.Assign [.Attribute (.Name "self" q1) "name" q2] (.Name "name" q3) q4]
def iS : Scope := { kind := .function, names := [(PySem.Str.ofString "self", .local), (PySem.Str.ofString "name", .local)], isGenerator := false, isCoroutine := false, more := [] }
structure NmTxt (K : Frag) (mg : Str → Option Value) (cn qn : Str) (C fI : Addr) : Prop where
  gC : mg cn = some (.ref C)
  cls : ∃ nm q N bs bm sn sub ab col dd k0 k1 k2 k3 k5, K.lookup C = some (excClassObj nm q C N bs bm true sn sub ab col dd k0 k1 k2 k3 k5 "ValueError.__new__") ∧ refsVE bm = true
  sa : findIn K (.ref C) "__setattr__" = some (some (.builtin "object.__setattr__"))
  ga : findIn K (.ref C) "__getattribute__" = some (some (.builtin "BaseException.__getattribute__"))
  gg : findIn K (.ref C) "__getattr__" = some none
  noN : findIn K (.ref C) "name" = some none
  iC : findIn K (.ref C) "__init__" = some (some (.ref fI))
  tC : typeIn K (.ref fI) = some (.type "function")
  kC : keepIn K (.ref C) = true
  exC : subIn K (.ref C) (.type "BaseException") = some true
  tyC : typeIn K (.ref C) = some (.type "type")
  hdC : hasDictIn K C = true
  te : exmOne K (.ref C) (.ref C) = some true
  fn : ∃ (oc : Value) (od : Option Addr) (doc pm : Value) (an : Option Addr) (cdv ct : Value) (osl : Array (Option Value)) (p1 p2 q1 q2 q3 q4 : Pos),
    K.lookup fI = some ⟨oc, od, .func (fnOf "__init__" qn (iA p1 p2) (iB q1 q2 q3 q4) iS .none .none doc pm an cdv ct), osl⟩ ∧ codeIn K cdv qn = true
theorem one_size (v : Value) : [v].length ≤ sizeLine := by
  rw [sizeLine_eq]
  exact (by decide : 1 ≤ 16777216)
theorem kept_but {K : Frag} {h h' : Heap} {x : Addr} (X : K.In h) (hx : K.lookup x = none) (k : ∀ b o, b ≠ x → h.get? b = some o → h'.get? b = some o) : K.In h' := fun a o e =>
  k a o (fun z => by rw [z, hx] at e; cases e) (X a o e)
theorem ldC {M : Model} {s : Shared} {name : Str} {scope : Scope} {L a : Addr} {cd : Value} {m : Str → Option Value} {x : Str} {pos : Pos} {v : Value} {Q : Value → Shared → Prop} {A : Around} {E : Value → Shared → Prop} (hn : s.heap.Ns L m) (hv : m x = some v) (h : Q v s)
    (hk : scope.kind = .function := by rfl) (hl : (envOfC name scope L a cd).kindOf x = some .local := by rfl) (hd : (x == ("__debug__" : Str)) = false := by decide) :
    wpAny M A (eval (.Name x pos) (envOfC name scope L a cd)) Q E s := wpAny_Name (wpAny_loadName_local hk hl hn hv h) hd
structure InitEnd (h h' : Heap) (x C dx t1 : Addr) (v : Value) : Prop where
  keep : ∀ b o, b ≠ x → h.get? b = some o → h'.get? b = some o
  obj : h'.get? x = some { cls := .ref C, dict := some dx, data := .fields #[.ref t1, .none, .none, .none, .bool false, .none] }
  dbig : h.objs.size ≤ dx
  dne : dx ≠ x
  ns : h'.Ns1 dx (fun y => if y = "name" then some v else none)
structure OwnMade (h h' : Heap) (e C d : Addr) (v : Value) : Prop where
  keep : ∀ b o, h.get? b = some o → h'.get? b = some o
  new : h.objs.size ≤ e
  obj : ∃ oe vs, h'.get? e = some oe ∧ oe.cls = .ref C ∧ oe.dict = some d ∧ oe.data = .fields vs ∧ vs[1]? = some .none
  dbig : h.objs.size ≤ d
  dne : d ≠ e
  ns : h'.Ns1 d (fun y => if y = "name" then some v else none)
section
variable {prog : Program} {w : World} {A : Around} {E : Value → Shared → Prop} {R : Result → Shared → Prop} {s : Shared} {K : Frag} {mg : Str → Option Value} {cn qn : Str} {C fI : Addr}
theorem nm_init (T : NmTxt K mg cn qn C fI) {x t0 : Addr} {v : Value} (X : K.In s.heap) (hlim : s.heap.NoLimit) (hx : s.heap.get? x = some (excO C t0)) (hnx : K.lookup x = none) (hroom : A.depth < recursionLimit)
    (hq : ∀ h' tk dx, InitEnd s.heap h' x C dx t0 v → R (.ok (.ret .none)) { s with heap := h', toks := tk }) :
    codeAny (model prog w) A (.call (.ref fI) ⟨[.ref x, v], []⟩) R s := by
  obtain ⟨oc, od, doc, pm, an, cdv, ct, osl, p1, p2, q1, q2, q3, q4, ho, hcd⟩ := T.fn
  obtain ⟨nm, q, N, bs, bm, sn, sub, ab, col, dd, k0, k1, k2, k3, k5, hC, hbm⟩ := T.cls
  have hcl : clsIn K C = some { name := nm, bases := bs, mro := .ref C :: bm, ns := N, qualname := q, hasDict := true, slotNames := sn, subclasses := sub, abstract := ab, collection := col, hasDel := false } := by unfold clsIn; rw [hC] <;> rfl
  refine Att.call_fn (binds := [("self", .ref x), ("name", v)]) X hlim ho hcd hroom (BindsTo.of_eq (by first | rfl | with_unfolding_all rfl)) (by first | rfl | decide | with_unfolding_all rfl) (fun s₁ IC => ?_) rfl rfl rfl
  obtain ⟨h₁, tk₁, rfl⟩ := IC.toInCall.same
  have k : ∀ b o, s.heap.get? b = some o → h₁.get? b = some o := IC.toInCall.keep
  have hn := IC.toInCall.ns
  have hxL : s.heap.objs.size ≠ x := Nat.ne_of_gt (Heap.lt_size hx)
  have X₁ : K.In h₁ := X.keeps k
  have hx₁ := k _ _ hx
  -- self.by = by
  show wpAny _ _ (execs _ _) _ _ _
  refine wpAny_execs_cons (plainObj_wpAny_Assign_Attribute ?_)
  refine ldC (v := v) hn (by first | rfl | with_unfolding_all rfl | kernel_rfl) (ldC (v := .ref x) hn (by first | rfl | with_unfolding_all rfl | kernel_rfl) ?_)
  refine set_plain X₁ (ox := excO C t0) (od := none) ⟨hx₁, rfl, rfl, trivial⟩ T.sa ?_
  refine exc_osa X₁ hx₁ hcl (show refsVE (.ref C :: bm) = true from hbm) rfl T.noN (fun h₃ tk₃ dx k₃ dn dne hx₃ hn₃ => ?_)
  show wpAny _ _ (execs _ _) _ _ _
  have z : s.heap.objs.size < h₁.objs.size := hn.lt
  exact wpAny_execs_nil (hq h₃ tk₃ dx ⟨fun b o hb e => k₃ b o hb (k b o e), hx₃, Nat.le_of_lt (Nat.lt_of_lt_of_le z dn), dne, hn₃⟩)
theorem nm_made (T : NmTxt K mg cn qn C fI) {v : Value} (X : K.In s.heap) (hlim : s.heap.NoLimit) (hroom : A.depth + 1 < recursionLimit)
    (hq : ∀ h' tk e d, OwnMade s.heap h' e C d v → R (.ok (.ret (.ref e))) { s with heap := h', toks := tk }) :
    codeAny (model prog w) A (.call (.ref C) ⟨[v], []⟩) R s := by
  obtain ⟨nm, q, N, bs, bm, sn, sub, ab, col, dd, k0, k1, k2, k3, k5, hC, hbm⟩ := T.cls
  obtain ⟨hp, g, dr, tk, os⟩ := s
  have k : ∀ b o, hp.get? b = some o → ((hp.push (kdv_tup [v])).push (excO C hp.objs.size)).get? b = some o := fun b o e => Heap.get?_push_of_some _ (Heap.get?_push_of_some _ e)
  have hget : ((hp.push (kdv_tup [v])).push (excO C hp.objs.size)).get? (hp.objs.size + 1) = some (excO C hp.objs.size) := by heap_get
  have hnx : K.lookup (hp.objs.size + 1) = none := by
    cases e : K.lookup (hp.objs.size + 1) with
    | none => rfl
    | some o =>
      have z : hp.get? (hp.objs.size + 1) = some o := X _ _ e
      exact absurd (Nat.lt_of_succ_lt (Heap.lt_size z)) (Nat.lt_irrefl _)
  refine call_own F.excBase_ValueError (fun X => refsVE_contains X bm hbm) (X _ _ hC) (looks_findIn X T.iC) (fun self => bind_fn X self T.tC) (one_size v) ?_
  refine nm_init (s := ⟨(hp.push (kdv_tup [v])).push (excO C hp.objs.size), g, dr, tk, os⟩) T (X.keeps k) (hlim.keeps k) hget hnx ?_ fun h' tk' dx ⟨k', hx, dn, dne, hns⟩ => ?_
  · show A.depth + 1 < recursionLimit
    exact hroom
  · have old : ∀ b o, hp.get? b = some o → h'.get? b = some o := fun b o e => k' b o (Nat.ne_of_lt (Nat.lt_succ_of_lt (Heap.lt_size e))) (k b o e)
    have z : hp.objs.size + 1 + 1 ≤ dx := by
      first
        | (simpa only [Heap.size_push] using dn)
        | exact dn
        | (have q := dn; rw [Heap.size_push, Heap.size_push] at q; exact q)
    exact ⟨rfl, hq h' tk' (hp.objs.size + 1) dx ⟨old, Nat.le_succ _, ⟨_, _, hx, rfl, rfl, rfl, rfl⟩, Nat.le_trans (Nat.le_trans (Nat.le_succ _) (Nat.le_succ _)) z, dne, hns⟩⟩
end
end NmX
end PySem
namespace L2
open PySem PySem.Spec PyProof.Rows
theorem relO_nm {v : V} {v' : Value} (r : RelV v v') (f : Str) : RelO (List.lookup f [(("name" : Str), v)]) (if f = "name" then some v' else none) := by
  by_cases hw : f = "name"
  · subst hw
    rw [if_pos rfl]
    have q : List.lookup ("name" : Str) [(("name" : Str), v)] = some v := by simp [List.lookup]
    rw [q]
    exact r
  · rw [if_neg hw]
    have qw : (f == ("name" : Str)) = false := by simpa using hw
    have q2 : List.lookup f [(("name" : Str), v)] = none := by simp [List.lookup, qw]
    rw [q2]
    trivial
section
variable {X : Cx} {cn qn : Str} {C fI : Addr}
def tMkNm (C : Addr) (ta : TA) : St → Hp → XK → Prop := fun σ H Q => ta σ H fun vs H1 => ∃ v, vs = [v] ∧ ∀ d, H1 d = none → Q (.ref C) (some d) (upd H1 d (.xd [(("name" : Str), v)]))
theorem pmk_nm (hdb : (cn == ("__debug__" : Str)) = false) {a : Expr} {ta : TA} {p pos : Pos} {k : Nat} (T : PySem.NmX.NmTxt X.K X.mg cn qn C fI) (hr : Room k X.A) (ha : PA X [a] ta) (hg : Gl X cn := by rfl)
    (he : starEach (a :: []) X.env = (false, eval a X.env) :: starEach [] X.env := by rfl) (hpl : (backTo pos (starEach [] X.env)).any (·.1) = false := by rfl) :
    PMk X (.Call (.Name cn p) [a] [] pos) (tMkNm C ta) := by
  intro pins s σ H Q I h
  refine wpAny_Call_Name_kw (ld_glob I hg T.gC ?_ hdb)
  refine PySem.W.callWith_K (h₀ := X.base) I.ok.mod.kin T.kC (thn (ha.run pos pins s σ H _ I h) fun us s1 hh => ?_) he hpl
  obtain ⟨vs, H1, I1, r1, v, ev, q1⟩ := hh
  subst ev
  refine ⟨I1.kIn, ?_⟩
  cases r1 with
  | cons rv rn =>
    rename_i v' us'
    cases rn
    show wpAny _ _ (call (.ref C) [v']) _ _ _
    have hlim := I1.nolimit
    obtain ⟨hp, g, dr, tk, os⟩ := s1
    refine wpAny_call (PySem.NmX.nm_made T I1.kIn hlim (by have := hr.dp; omega) fun h' tk' e d M => ?_)
    show MkP X pins σ Q (.ref e) ⟨h', g, dr, tk', os⟩
    obtain ⟨oe, fv, hoe, hc, hd, hdat, h1⟩ := M.obj
    have hns := M.ns
    obtain ⟨G', g1, g2⟩ := restrict h' fun b => decide (b ≠ e)
    have gk : ∀ b, b ≠ e → G'.get? b = h'.get? b := fun b hb => g1 b (decide_eq_true hb)
    have ge : G'.get? e = none := g2 e (by simp)
    have old : ∀ b o, hp.get? b = some o → G'.get? b = some o := fun b o q => (gk b (Nat.ne_of_lt (Nat.lt_of_lt_of_le (Heap.lt_size q) M.new))).trans (M.keep b o q)
    have ob : ObjOk X.prog X.w (upd H1 d (.xd [(("name" : Str), v)])) G' d (.xd [(("name" : Str), v)]) :=
      ⟨_, hns.at (fun o q => (gk d M.dne).trans q), fun f => relO_nm rv f⟩
    have J : Inv X pins σ (upd H1 d (.xd [(("name" : Str), v)])) ⟨G', g, dr, tk', os⟩ := I1.laid (t' := tk') old M.dbig ob
    refine ⟨e, oe, fv, ⟨G', g, dr, tk', os⟩, _, .ref C, some d, rfl, J, fun b o q => ?_, ge, hoe, ⟨hc, hd⟩, hdat, h1, ?_, rfl, I1.bare, raises_own T.exC T.tyC, q1 d (I1.hok.fresh M.dbig)⟩
    · by_cases hb : b = e
      · have q' : G'.get? b = some o := q
        rw [hb, ge] at q'; cases q'
      · exact (gk b hb).symm.trans q
    · rw [upd_ne (Ne.symm M.dne)]
      exact I1.hok.fresh M.new
def tRaiseNm (C : Addr) (W : WX) (ta : TA) : TS := fun _ σ H => tMkNm C ta σ H fun cls d H' => W cls d σ H'
theorem ps_raiseNm (hdb : (cn == ("__debug__" : Str)) = false) {a : Expr} {ta : TA} {W : WX} {p pos pos2 : Pos} {k : Nat} (hc : X.calm = true) (T : PySem.NmX.NmTxt X.K X.mg cn qn C fI) (hr : Room k X.A) (tk : Takes X W) (ha : PA X [a] ta) (hg : Gl X cn := by rfl)
    (he : starEach (a :: []) X.env = (false, eval a X.env) :: starEach [] X.env := by rfl) (hpl : (backTo pos (starEach [] X.env)).any (·.1) = false := by rfl) :
    PS X (.Raise (some (.Call (.Name cn p) [a] [] pos)) none pos2) (tRaiseNm C W ta) := ps_raise hc tk (pmk_nm hdb T hr ha hg he hpl)
def tByNm (C : Addr) (a : Addr) (cls : Value) (d : Option Addr) (te : TE) : TE := fun σ H Q => te σ H fun x H1 => x = .ref a ∧ cls = .ref C ∧ ∃ (dd : Addr) (v : V), d = some dd ∧ H1 dd = some (.xd [(("name" : Str), v)]) ∧ Q v H1
theorem pe_byNm {a : Addr} {oe : Obj} {cls : Value} {d : Option Addr} {pn : List (Addr × Obj)} {e : Expr} {te : TE} {pos : Pos} (T : PySem.NmX.NmTxt X.K X.mg cn qn C fI) (hz : Zc cls d oe) (hf : ∃ vs, oe.data = .fields vs) (he : PE (X.suite a ((a, oe) :: pn)) e te)
    (hb : attributeBase e "name" X.env (eval e X.env) = eval e X.env := by rfl) :
    PE (X.suite a ((a, oe) :: pn)) (.Attribute e "name" pos) (tByNm C a cls d te) := by
  refine ⟨fun pins s σ H Q I h => ?_⟩
  refine attr_of hb (thn (he.run pins s σ H _ I h) fun u s1 hh => ?_)
  obtain ⟨x, H1, I1, rx, ex, ec, dd, v, ed, ea, q⟩ := hh
  subst ex
  obtain rfl : u = Value.ref a := rx
  subst ec
  subst ed
  obtain ⟨ha, _⟩ := I1.pin (a, oe) (List.mem_append_left _ List.mem_cons_self)
  obtain ⟨vs, hd⟩ := hf
  have hx : ObjOk X.prog X.w H1 s1.heap dd (.xd [(("name" : Str), v)]) := I1.hok dd _ ea
  obtain ⟨mA, hns, hr⟩ := hx
  obtain ⟨od, ho, hl⟩ := lookIn_ns hns
  have l : List.lookup ("name" : Str) [(("name" : Str), v)] = some v := by simp [List.lookup]
  obtain ⟨u, hu, ru⟩ := RelO.some_of (v := v) (o := mA "name") (by rw [← l]; exact hr "name")
  have J : PySem.W.InstAt s1.heap a oe C (some od) := ⟨ha, hz.1, by unfold PySem.W.notCls; rw [hd] <;> rfl, by rw [hz.2]; exact ho⟩
  exact HandSPX.exc_get I1.kIn J T.ga T.gg T.exC (PySem.W.findObj_own T.hdC T.noN rfl (by rw [hl, hu])) (handed_of ru) ⟨v, H1, I1.tok _, ru, q⟩
end
end L2


namespace VK
open PySem PySem.Spec PyProof.Rows L2
/-! ### defs that may raise, no repr around them -/
section
variable {P : Program} {w : World} {K : PySem.W.Frag} {mg : Str → Option Value} {base : Heap}
theorem okGX {x qual : Str} {st : Stmt} {f : Addr} {fd : FuncData} {N ps : List Str} {k : Nat} {sp : Sp} (F : Fun K x qual st f fd) (S : FnScope N ps (defScope st))
    (ln : ∀ vs H Q E, sp vs H Q E → vs.length = ps.length)
    (body : ∀ (cdv : Value) (A : Around) (outer : List Env) (s : Shared) (H : Hp) (vs : List V) (Q : VK) (E : XK),
      A.guards = some [] → Room k (A.deeper (envOfC qual (defScope st) s.heap.objs.size f cdv)) → sp vs H Q E →
      ∃ t, PSs (cxOf (L2.CX P w) P w K mg base N qual (defScope st) f cdv A outer s H E) (defBody st) t ∧ t { nx := fun _ H' => Q .non H', rt := Q } (start N vs) H) :
    FnG P w K mg base (L2.CX P w) (k + 1) f fd ps sp := by
  obtain ⟨oc, od, kV, doc, pm, an, cdv, ct, osl, e, lk, hcd⟩ := F.ex
  subst e
  refine ⟨ln, ?_⟩
  intro A outer s H a us vs Q E gA room ev bd rel sps
  have inK := ev.mod.kin.keeps fun b o z => (ev.bs b o z).1
  have nolim := ev.mod.nolimit.keeps fun b o z => (ev.bs b o z).1
  have lens := ln _ _ _ _ sps
  have kinds : ∀ y ∈ ps.zip us, (defScope st).names.lookup y.1 = some .local ∨
      ((defScope st).names.lookup y.1 = some .cell ∧ ((cellsFrom (s.heap.objs.size + 1) (defScope st).names []).lookup y.1).isSome = true) := by
    intro y hy
    have hm : y.1 ∈ ps := (List.of_mem_zip (show (y.1, y.2) ∈ ps.zip us from hy)).1
    exact (S.par y.1 hm).imp _root_.id fun z => ⟨z, PySem.W.cellsFrom_some _ _ _ (.inl z)⟩
  refine codeAny_call_function room.depth (inK _ _ lk) rfl S.co S.gen rfl (PySem.W.codeRec_of inK hcd) (bd _ _ _ _ ?_)
  refine wpAny_newFunctionEnv_cells S.kind kinds ?_
  rintro env rfl s1 inC
  refine ⟨nolim.keeps inC.toInCall.keep, codeAny_func ?_⟩
  obtain ⟨t, ht, hq⟩ := body cdv A outer s H vs Q E gA (room.deeper _) sps
  have J := inv_start (CX := L2.CX P w) (mg := mg) (base := base) (E := E) S room.hd ev lens rel inC
  refine wpAny_mono (ht.run [] s1 (start N vs) H _ J hq) ?_ fun _ _ z => z
  intro fl s' hs
  match fl, hs with
  | .ret u, hs => obtain ⟨v, σ', H', J', rv, q⟩ := hs; exact ⟨v, H', J'.os, J'.bare, J'.base, J'.hok, rv, q⟩
  | .next, hs => obtain ⟨σ', H', J', q⟩ := hs; exact ⟨.non, H', J'.os, J'.bare, J'.base, J'.hok, rfl, q⟩
  | .brk, hs => obtain ⟨_, _, _, q⟩ := hs; exact q.elim
  | .cont, hs => obtain ⟨_, _, _, q⟩ := hs; exact q.elim
structure CalX (P : Program) (w : World) (K : PySem.W.Frag) (mg : Str → Option Value) (base : Heap) (k : Nat) (x : Str) (sp : Sp) : Prop where
  ex : ∃ f fd ps, FnG P w K mg base (L2.CX P w) k f fd ps sp ∧ mg x = some (.ref f) ∧ PySem.W.keepIn K (.ref f) = true ∧ Binds K fd ps []
theorem def_okX {x : Str} {st : Stmt} {N ps : List Str} {k : Nat} {sp : Sp} (D : DefAt K mg x st ps) (S : FnScope N ps (defScope st))
    (ln : ∀ vs H Q E, sp vs H Q E → vs.length = ps.length)
    (body : ∀ (f : Addr) (cdv : Value) (A : Around) (outer : List Env) (s : Shared) (H : Hp) (vs : List V) (Q : VK) (E : XK),
      A.guards = some [] → Room k (A.deeper (envOfC x (defScope st) s.heap.objs.size f cdv)) → sp vs H Q E →
      ∃ t, PSs (cxOf (L2.CX P w) P w K mg base N x (defScope st) f cdv A outer s H E) (defBody st) t ∧ t { nx := fun _ H' => Q .non H', rt := Q } (start N vs) H) :
    CalX P w K mg base (k + 1) x sp := by
  obtain ⟨f, fd, F, b, m⟩ := D.ex
  exact ⟨f, fd, ps, okGX F S ln (body f), m, F.kp, b⟩
end
/-- a call that may raise, in a try -/
theorem pe_cgS {X : Cx} {k j : Nat} {x : Str} {p pos : Pos} {e : Expr} {es : List Expr} {t : TA} {sp : Sp} {W : WX} (c : CalX X.prog X.w X.K X.mg X.base k x sp) (hga : X.A.guards = some []) (room : Room j X.A) (hk : k ≤ j) (gl : Gl X x) (tk : Takes X W)
    (args : PA X (e :: es) t) (nd : (x == ("__debug__" : Str)) = false := by decide) (st : starEach (e :: es) X.env = (false, eval e X.env) :: starEach es X.env := by rfl) (pl : (backTo pos (starEach es X.env)).any (·.1) = false := by rfl) :
    PE X (.Call (.Name x p) (e :: es) [] pos) (tCallS sp (WE W) t) := by
  obtain ⟨f, fd, ps, F, m, kp, b⟩ := c.ex
  constructor
  intro pins s σ H Q I h
  refine wpAny_Call_Name_kw (ld_glob I gl m ?_ nd)
  refine PySem.W.callWith_K (h₀ := X.base) I.ok.mod.kin kp (thn (args.run pos pins s σ H _ I h) ?_) st pl
  intro us s1 ⟨vs, H1, I1, r, q⟩
  refine ⟨I1.kIn, ?_⟩
  have rel : Vals (vs ++ []) (us ++ []) := r.append .nil
  have q' : sp (vs ++ []) H1 Q (WE W σ) := by
    rw [List.append_nil]
    exact q
  have hl : (us ++ []).length = ps.length := rel.length.symm.trans (F.args _ _ _ _ q')
  refine wpAny_call (codeAny_mono (F.go hga (room.mono hk) I1.env0 (b s1 us I1.kIn hl) rel q') ?_)
  intro r s' hq
  match r, hq with
  | .error e, hq => exact passAt tk σ pins H1 s1 e s' I1 hq
  | .ok (.ret u), hq => exact I1.after hq
  | .ok .next, hq => exact hq.elim
  | .ok .brk, hq => exact hq.elim
  | .ok .cont, hq => exact hq.elim
/-! ### isinstance of a caught error that has a dict -/
structure ExcD (K : PySem.W.Frag) (D : Addr) : Prop where
  hc : (PySem.W.clsIn K D).isSome = true
  hg : PySem.W.findIn K (.ref D) "__getattribute__" = some (some (.builtin "BaseException.__getattribute__"))
  hk : PySem.W.findIn K (.ref D) "__getattr__" = some none
  hs : PySem.W.subIn K (.ref D) (.type "BaseException") = some true
  ha : PySem.W.findIn K (.ref D) "__class__" = some (some (.builtin "object.__class__"))
  hn : PySem.W.specialIn K (.builtin "object.__class__") "__get__" = some (some (.builtin "getset_descriptor.__get__"))
  ht : PySem.W.takesIn K (.builtin "object.__class__") = some true
  hm : PySem.W.mroIn K D (.type "object") = some true
def rIsX (K : PySem.W.Frag) (D a : Addr) (cls : Value) (d : Option Addr) : List V → Hp → VK → Prop := fun xs H Q => ∃ (c : V) (cv : Value) (b : Bool) (dd : Addr) (fs : List (Str × V)), xs = [.ref a, c] ∧ cls = .ref D ∧ d = some dd ∧ H dd = some (.xd fs) ∧ (∀ u, RelV c u → u = cv) ∧ PySem.W.kitOne K (.ref D) cv = some b ∧ Q (.bl b) H
theorem call_isX {X : Cx} {a D : Addr} {oe : Obj} {cls : Value} {d : Option Addr} {pn : List (Addr × Obj)} (C : ExcD X.K D) (hz : Zc cls d oe) (hf : ∃ vs, oe.data = .fields vs) : CallR (X.suite a ((a, oe) :: pn)) (.builtin "isinstance") (rIsX X.K D a cls d) := by
  intro pins s σ H xs us Q I r h
  obtain ⟨c, cv, b, dd, fs, rfl, rfl, rfl, hdd, hcv, e, q⟩ := h
  cases r with
  | cons rx rr =>
    cases rr with
    | cons rt rr =>
      cases rr
      cases rx
      have ec := hcv _ rt
      subst ec
      obtain ⟨hget, _⟩ := I.pin (a, oe) (List.mem_append.mpr (.inl List.mem_cons_self))
      obtain ⟨vs, hv⟩ := hf
      obtain ⟨mA, hns, _⟩ := I.hok dd _ hdd
      obtain ⟨od, ho, hl⟩ := lookIn_ns hns
      have J : PySem.W.InstAt s.heap a oe D (some od) := ⟨hget, hz.1, by unfold PySem.W.notCls; rw [hv] <;> rfl, by rw [hz.2]; exact ho⟩
      exact PySem.W.kia_one (PySem.W.kitx_exc C.hc C.hg C.hk C.hs C.ha C.hn C.ht C.hm) I.kIn J e (fun z => nomatch z) fun tk => ⟨.bl b, H, I.kept (t' := tk) fun _ _ z => z, rfl, q⟩
/-! ### the place of an item in a tuple -/
def rIndexT (K : PySem.W.Frag) : V → List V → Hp → VK → Prop := fun x xs H Q => ∃ (a : Addr) (ys : List V) (y : V) (j : Nat) (z : V), x = V.ref a ∧ xs = [y] ∧ SqT K H a ys ∧ flatV y = true ∧ ys.all flatV = true ∧ ys[j]? = some z ∧ eqV z y = true ∧
  (∀ (m : Nat) (z' : V), m < j → ys[m]? = some z' → eqV z' y = false) ∧ Q (.int (j : Nat)) H
theorem mt_indexT {X : Cx} : MtR X "tuple.index" (rIndexT X.K) := by
  intro pins s σ H x xs v us Q I rx rxs h
  obtain ⟨a, ys, y, j, z, rfl, rfl, hs, fy, fys, hz, hzj, hno, q⟩ := h
  cases rx
  cases rxs with
  | cons ry rt =>
    rename_i uy ut
    cases rt
    obtain ⟨its, rv, pl, hlen⟩ := I.tuple hs
    obtain ⟨⟨cls, dd, data, sl⟩, ho, hc, n, hd⟩ := pl
    simp only at hc hd
    subst hc hd
    obtain ⟨u, hu, ru⟩ := rv.get hz
    obtain ⟨hjl, hje⟩ := List.getElem?_eq_some_iff.mp hu
    have hvl := rv.length
    have hj : j < its.toArray.size := by simpa using hjl
    refine call_meets PySem.F.slot_tuple_index ⟨_, ho, rfl⟩ PySem.F.entry_tuple_index (PySem.F.args_tuple_index_2 _ _)
      (TI.tuple_indexAt a its.toArray n dd sl uy (eqU y) j hj ?_ ?_) ⟨ho, fun u' hu' => mem_eqAt ry fy rv fys u' (by simpa using hu'), ?_⟩
    · have e1 : its.toArray[j] = u := by simpa using hje
      rw [e1, eqU_of ru (flat_at fys hz)]
      exact hzj
    · intro m hm hmj
      have hml : m < its.length := by simpa using hm
      have hmy : m < ys.length := by omega
      have hy' : ys[m]? = some ys[m] := List.getElem?_eq_getElem hmy
      obtain ⟨u2, hu2, ru2⟩ := rv.get hy'
      obtain ⟨_, hme⟩ := List.getElem?_eq_some_iff.mp hu2
      have e1 : its.toArray[m] = u2 := by simpa using hme
      rw [e1, eqU_of ru2 (flat_at fys hy')]
      exact hno m _ hmj hy'
    · exact ⟨.int (j : Nat), H, I.tok _, ⟨_, rfl⟩, q⟩
/-! ### tuples that are known to have no dict: frozen -/
def kTupF (K : PySem.W.Frag) (x : V) (H : Hp) (Q : VK) : Prop :=
  ∃ p xs, x = .ref p ∧ SqL K H p xs ∧ ∀ q ob, H q = none → ob.dict = none → Q (.ref q) (upd H q (.frz ob (.tup xs)))
section
variable {X : Cx}
theorem rl_tupleF (pins : List (Addr × Obj)) (s : Shared) (σ : L2.St) (H : Hp) (x : V) (v : Value) (Q : VK) (I : Inv X pins σ H s) (r : L2.RelV x v) (h : kTupF X.K x H Q) :
    wpAny (model X.prog X.w) X.A (call (.type "tuple") [v]) (EP X pins σ Q) X.xe s := by
  obtain ⟨p, xs, e, hs, q⟩ := h
  subst e
  have e : v = .ref p := r
  subst e
  obtain ⟨its, rv, pl, hz⟩ := I.list hs
  refine call_tuple_list pl.isList (fun h' hk => ?_) (by rw [List.size_toArray, ← rv.length]; exact hz)
  have J := I.kept (t' := s.toks) hk
  have J2 : Inv X pins σ (upd H h'.objs.size (.frz { cls := .type "tuple", data := .seq its.toArray } (.tup xs))) { s with heap := h'.push { cls := .type "tuple", data := .seq its.toArray } } :=
    J.laid (t' := s.toks) (fun b o z => Heap.get?_push_of_some _ z) (Nat.le_refl _) (show ObjOk X.prog X.w _ _ _ (.frz _ (.tup xs)) from ⟨Heap.get?_push_size _ rfl, hz, its, rv, IsTup.new _ _⟩)
  exact ⟨.ref h'.objs.size, _, J2, rfl, q _ _ (J.hok.fresh (Nat.le_refl _)) rfl⟩
theorem pe_tupleF {a : Expr} {ta : TE} {p pos : Pos} (hg : Gl X "tuple") (hm : X.mg "tuple" = none) (ha : PE X a ta) (na : starEach [a] X.env = (false, eval a X.env) :: starEach [] X.env := by rfl) :
    PE X (.Call (.Name "tuple" p) [a] [] pos) (tThen ta (kTupF X.K)) :=
  ⟨fun pins s σ H Q I h => Call_ (ld_blt I hg hm boot_tuple (PyProof.Rows.callWith_type1 (one_arg ha I h (fun v s2 x H2 I2 r q => rl_tupleF pins s2 σ H2 x v Q I2 r q) na) na))⟩
def FzT (H : Hp) (p : Addr) (xs : List V) : Prop := ∃ ob, ob.dict = none ∧ H p = some (.frz ob (.tup xs))
theorem FzT.sq {K : PySem.W.Frag} {H : Hp} {p : Addr} {xs : List V} (h : FzT H p xs) : SqT K H p xs := by
  obtain ⟨ob, _, e⟩ := h
  exact .inl (.inr ⟨ob, e⟩)
theorem FzT.same {H H' : Hp} {p : Addr} {xs : List V} (h : FzT H p xs) (s : Same H H') : FzT H' p xs := by
  obtain ⟨ob, d, e⟩ := h
  exact ⟨ob, d, s _ _ e⟩
/-- a method of such a tuple -/
def tBMF (r : V → List V → Hp → VK → Prop) (to : TE) (t : TA) : TE := fun σ H Q => to σ H fun x H1 => ∃ p xs, x = .ref p ∧ FzT H1 p xs ∧ t σ H1 fun vs H2 => r x vs H2 Q
theorem pe_bmF {o e : Expr} {es : List Expr} {to : TE} {t : TA} {name : Str} {apos cpos : Pos} {id : String} {r : V → List V → Hp → VK → Prop} (pa : PlainAttrs "tuple") (slot : Slot "tuple" name id) (hty : typeOf (.builtin id) = pure (.type "method_descriptor")) (hm : MtR X id r) (ho : PE X o to) (ha : PA X (e :: es) t)
    (hbase : attributeBase o name X.env (eval o X.env) = eval o X.env := by rfl)
    (hfew : ((backTo cpos (starEach (e :: es) X.env)).all (fun x => !x.1) && (backToKw cpos (keywordEach [] X.env)).all (fun x => x.1.isSome)
      && decide ((e :: es).length + ([] : List Keyword).length + (if ([] : List Keyword).isEmpty then 0 else 1) < 30)) = true := by rfl)
    (hline : (apos.endLine == cpos.line) = true := by rfl) (hs : starEach (e :: es) X.env = (false, eval e X.env) :: starEach es X.env := by rfl) (hplain : (backTo cpos (starEach es X.env)).any (·.1) = false := by rfl) :
    PE X (.Call (.Attribute o name apos) (e :: es) [] cpos) (tBMF r to t) := by
  constructor
  intro pins s σ H Q I h
  refine wpAny_Call_method_late hbase hfew hline rfl (thn (ho.run pins s σ H _ I h) ?_)
  rintro v s1 ⟨x, H1, J, r1, p, xs, rfl, fz, q⟩
  have e : v = .ref p := r1
  subst e
  obtain ⟨ob, hd, ho2⟩ := fz
  obtain ⟨hget, _, its, _, o2, e2, c2, _⟩ := J.hok p _ ho2
  have eo : ob = o2 := by
    rw [hget] at e2
    exact Option.some.inj e2
  subst eo
  refine ⟨"tuple", id, pa, slot, hty, ⟨ob, hget, c2⟩, fun a ea => ?_, ?_⟩
  · cases ea
    exact ⟨ob, hget, hd⟩
  · have hA := ha.run cpos pins s1 σ H1 _ J q
    rw [hs] at hA ⊢
    refine Calls.callWith_builtin (by show (false || (backTo cpos (starEach es X.env)).any (·.1)) = false; rw [hplain] <;> rfl) (Calls.evalArgs_plain ?_)
    exact thn hA fun us s2 ⟨vs, H2, I2, r2, q2⟩ => hm pins s2 σ H2 _ vs _ us Q I2 r1 r2 q2
end
end VK

/-! VKit5: several except clauses that name the error -/
namespace VK
open PySem PySem.Spec PyProof.Rows L2
/-- what the clauses wish of an error, one behind the other; slot i is the name's -/
def wNames (K : PySem.W.Frag) (Wout : WX) (i : Nat) (D : Ends) : List (Value × (Addr → Value → Option Addr → TS)) → WX
  | [] => Wout
  | (c, ts) :: r => fun cls d σ H => ∃ b, PySem.W.exmOne K cls c = some b ∧
    (b = true → ∀ a, H a = none → ts a cls d { nx := fun τ G => D.nx (τ.set i none) G, rt := D.rt, bk := fun τ G => D.bk (τ.set i none) G, ct := fun τ G => D.ct (τ.set i none) G } (σ.set i (some (.ref a))) H) ∧
    (b = false → wNames K Wout i D r cls d σ H)
inductive HdsAs (X : Cx) (n : Str) : List ExceptHandler → List (Value × (Addr → Value → Option Addr → TS)) → Prop
  | nil : HdsAs X n [] []
  | cons {x : Str} {c : Value} {ts : Addr → Value → Option Addr → TS} {b₀ : Stmt} {suite : List Stmt} {np pos' : Pos} {hds : List ExceptHandler} {l : List (Value × (Addr → Value → Option Addr → TS))} (named : Names X x c)
      (suiteOk : ∀ (a : Addr) (oe : Obj) (cls : Value) (d : Option Addr) (pn : List (Addr × Obj)), Zc cls d oe → (∃ vs, oe.data = .fields vs) → PSs (X.suite a ((a, oe) :: pn)) (b₀ :: suite) (ts a cls d)) (r : HdsAs X n hds l) :
      HdsAs X n (.ExceptHandler (some (.Name x np)) (some n) (b₀ :: suite) pos' :: hds) ((c, ts) :: l)
section
variable {X : Cx} {n : Str} {i : Nat} {body : List Stmt} {h₀ : ExceptHandler} {hds : List ExceptHandler} {l : List (Value × (Addr → Value → Option Addr → TS))} {pos : Pos} {tb : WX → TS} {Wout : WX}
theorem ps_try_names (sk : X.stack = X.env :: X.outer) (fr : X.env.frame = some X.env.locals) (nodup : X.N.Nodup) (at_i : X.N[i]? = some n) (loc_n : X.env.kindOf n = some .local) (tk : Takes X Wout)
    (hb : ∀ (W : WX) (pn : List (Addr × Obj)) (xe : Value → Shared → Prop), Takes (X.tr pn xe) W → PassesOwn (model X.prog X.w) X.A X.env xe → PSs (X.tr pn xe) body (tb W))
    (hh : HdsAs X n (h₀ :: hds) l) : PS X (.Try body (h₀ :: hds) [] [] pos) (fun D σ H => tb (wNames X.K Wout i D l) D σ H) := by
  refine ⟨fun pins s σ H D I h => ?_⟩
  have ok := I.ok
  have frm : X.A.frames = some (X.env :: X.outer) := by rw [ok.frames, sk]
  refine wpAny_Try_except ?_
  refine wpAny_mono ((hb (wNames X.K Wout i D l) (X.pn ++ pins) (fun e s₁ => wpAny (model X.prog X.w) X.A (noteFrame e X.env) (fun _ s₂ => wpAny (model X.prog X.w) X.A (setFlight e none) (fun _ s₃ =>
    wpAny (model X.prog X.w) X.A (handleBy e X.env (h₀ :: hds)) (SP X pins D) X.xe s₃) X.xe s₂) X.xe s₁) (fun u sz xx => ?_) PassesOwn.looking).run [] s σ H D (I.toTry _) h) (fun f s1 got => ?_) (fun e s1 he => he)
  · -- the catch
    obtain ⟨a, B, sI, pinz, σz, Hz, cls, d, rfl, Jt, nb, up, sky, na, os, ag, w⟩ := xx
    have J : Inv X pins σz Hz sI := Jt.ofTry ok
    have skyA : Sky B (X.env :: X.outer) a (Zc cls d) X.env.locals sz.heap := by rw [← sk]; exact sky
    show wpAny (model X.prog X.w) X.A (noteFrame (.ref a) X.env) _ _ _
    refine Sky.land Zc.steady frm fr skyA fun hA flA upA => ?_
    have JA : Inv X pins σz Hz { sz with heap := hA } := J.landed nb flA.1 (up.trans upA) os ag
    obtain ⟨oA, vA, eA, zA, dA⟩ := flA.there
    have off_frames : ∀ {h : Heap} {o : Obj} {vs : Array Value}, h.FunFrames B (X.env :: X.outer) → h.get? a = some o → o.data = .fields vs → a ∉ frs (X.env :: X.outer) := fun {h o vs} ff e dd hm => by
      obtain ⟨_, o', e', hnf⟩ := ff.mem hm
      rw [e] at e'; cases e'
      exact hnf _ dd
    have offA := off_frames flA.2.2.1 eA dA
    have apartL : a ≠ X.env.locals := fun z => offA (List.mem_filterMap.mpr ⟨X.env, List.mem_cons_self, by rw [fr, z]⟩)
    have apartF : a ∉ X.fs := fun hm => by
      obtain ⟨e, he, q⟩ := List.mem_filterMap.mp hm
      exact offA (List.mem_filterMap.mpr ⟨e, List.mem_cons_of_mem _ he, q⟩)
    have SA := JA.suite eA dA na apartL apartF
    have walk : ∀ {hdz : List ExceptHandler} {lz : List (Value × (Addr → Value → Option Addr → TS))}, HdsAs X n hdz lz → wNames X.K Wout i D lz cls d σz Hz →
        wpAny (model X.prog X.w) X.A (handleBy (.ref a) X.env hdz) (SP X pins D) X.xe { sz with heap := hA } := by
      intro hdz lz clauses
      induction clauses with
      | nil =>
        intro w
        refine wpAny_handleBy_nil ?_
        obtain ⟨k1, k2, k3, oe, vs, T, oTr, tsz, he, hz, hd, h1, hr⟩ := id flA
        unfold PySem.passOn
        refine wpAny_bind (wpAny_field he hd h1 ?_)
        rw [if_neg (show ¬ ((Value.ref T == Value.none) = true) from by simp)]
        have onward : wpAny (model X.prog X.w) X.A (setFlight (.ref a) X.env.frame) (fun _ sC => wpAny (model X.prog X.w) X.A (throw (.ref a) : Sem Flow) (SP X pins D) X.xe sC) X.xe { sz with heap := hA } := by
          rw [fr]
          refine HandSPX.setFlight_upZ flA fun hB hhB upB => wpAny_throw (tk _ _ ?_)
          exact ⟨a, B, sI, pins, σz, Hz, cls, d, rfl, J, nb, (up.trans upA).trans upB, .inr (.inr (by rw [sk]; exact hhB)), na, os, ag, w⟩
        first
          | exact wpAny_bind (wpAny_pure (wpAny_bind onward))
          | exact wpAny_bind onward
      | @cons x c ts b₀ suite np posz hdt lt named suiteOk r rest_ok =>
        intro w
        obtain ⟨b, asked, good, bad⟩ := w
        refine wpAny_handleBy_cons (codeAny_handlers_test ?_) (by intro q; cases q)
        have tyLook : PySem.W.Looks (model X.prog X.w) hA (typeOf (.ref a)) cls := fun A Q E s k q => wpAny_typeOf_ref (k _ _ eA) (by rw [zA.1]; exact q)
        have exLook := PySem.W.exm_one (M := model X.prog X.w) (JA.kIn) tyLook asked
        have tried : ∀ {Q : Value → Shared → Prop} {E : Value → Shared → Prop}, Q c { sz with heap := hA } → wpAny (model X.prog X.w) (X.A.mark (some (.ref a))) (eval (.Name x np) X.env) Q E { sz with heap := hA } := fun {Q E} q => by
          obtain ⟨hg, dbg, hm | ⟨hm, hv, nameOk⟩⟩ := named
          · exact ld_glob (X := X.suite a ((a, oA) :: (X.pn ++ pins))) SA hg hm q dbg
          · exact ld_blt (X := X.suite a ((a, oA) :: (X.pn ++ pins))) SA hg hm hv q nameOk dbg
        refine tried (exLook.here ?_)
        cases b with
        | true =>
          refine codeAny_handlers_suite_as ?_
          refine HandSPX.lands_againZ flA fun hB flB upB => ?_
          have JB : Inv X pins σz Hz { sz with heap := hB } := J.landed nb flB.1 ((up.trans upA).trans upB) os ag
          obtain ⟨oB, vB, eB, zB, dB⟩ := flB.there
          have SB := JB.suite eB dB na apartL apartF
          refine store_ok (X := X.suite a ((a, oB) :: (X.pn ++ pins))) (v := .ref a) SB nodup at_i (.inl loc_n) rfl (fun sD SD => ?_) (.inr loc_n)
          refine wpAny_mono ((suiteOk a oB cls d (X.pn ++ pins) zB ⟨_, dB⟩).run [] sD _ Hz _ SD (good rfl a na)) (fun f sE got => ?_) (fun _ _ z => False.elim z)
          have last : ∀ {σE : L2.St} {HE : Hp} {Q : Shared → Prop}, Inv (X.suite a ((a, oB) :: (X.pn ++ pins))) [] σE HE sE → (∀ sF, Inv X pins (σE.set i none) HE sF → Q sF) →
              wpAny (model X.prog X.w) X.A (do bindName X.env n .none; unbindBehindTheSuite X.env n posz) (fun _ sF => Q sF) X.xe sE := fun {σE HE Q} SE hq => gone_ok (SE.unsuite ok) nodup at_i loc_n hq
          cases f with
          | next =>
            obtain ⟨σE, HE, SE, qE⟩ := got
            exact last SE fun sF JF => ⟨_, _, JF, qE⟩
          | brk =>
            obtain ⟨σE, HE, SE, qE⟩ := got
            exact last SE fun sF JF => ⟨_, _, JF, qE⟩
          | cont =>
            obtain ⟨σE, HE, SE, qE⟩ := got
            exact last SE fun sF JF => ⟨_, _, JF, qE⟩
          | ret u =>
            obtain ⟨vE, σE, HE, SE, rE, qE⟩ := got
            exact last SE fun sF JF => ⟨_, _, _, JF, rE, qE⟩
        | false =>
          show wpAny _ X.A (handleBy (.ref a) X.env hdt) _ _ _
          exact rest_ok (bad rfl)
    exact walk hh w
  · cases f with
    | next =>
      obtain ⟨σz, Hz, Jt, q⟩ := got
      exact wpAny_execs_nil ⟨σz, Hz, Jt.ofTry ok, q⟩
    | brk =>
      obtain ⟨σz, Hz, Jt, q⟩ := got
      exact ⟨σz, Hz, Jt.ofTry ok, q⟩
    | cont =>
      obtain ⟨σz, Hz, Jt, q⟩ := got
      exact ⟨σz, Hz, Jt.ofTry ok, q⟩
    | ret u =>
      obtain ⟨v, σz, Hz, Jt, r, q⟩ := got
      exact ⟨v, σz, Hz, Jt.ofTry ok, r, q⟩
end
end VK

/-! Lat: squares in which no thing stands twice in a row or a column -/
namespace Lat
structure Is (n : Nat) (f : Nat → Nat → Int) : Prop where
  lo : ∀ i j, i < n → j < n → 0 ≤ f i j ∧ f i j < (n : Int)
  row : ∀ i j k, i < n → j < n → k < n → f i j = f i k → j = k
  col : ∀ i k j, i < n → k < n → j < n → f i j = f k j → i = k
def upTo (m : Int) : List Int := (List.range m.toNat).map fun i : Nat => (i : Int)
theorem upTo_len (m : Int) : (upTo m).length = m.toNat := by
  unfold upTo
  rw [List.length_map, List.length_range]
theorem upTo_nodup (m : Int) : (upTo m).Nodup := by
  unfold upTo
  refine List.Pairwise.map _ (fun a b h => ?_) List.nodup_range
  omega
theorem upTo_mem {m x : Int} : x ∈ upTo m ↔ 0 ≤ x ∧ x < m := by
  unfold upTo
  rw [List.mem_map]
  constructor
  · rintro ⟨i, hi, rfl⟩
    rw [List.mem_range] at hi
    omega
  · intro h
    exact ⟨x.toNat, by rw [List.mem_range]; omega, by omega⟩
/-- the i-th of a list of ints -/
def nth (l : List Int) (i : Nat) : Int := l.getD i 0
theorem nth_get {l : List Int} {i : Nat} (h : i < l.length) : l[i]? = some (nth l i) := by
  unfold nth
  rw [List.getD_eq_getElem?_getD, List.getElem?_eq_getElem h]
  rfl
section
variable {n : Nat} {l : List Int} (hp : l.Perm (upTo n))
include hp
theorem perm_len : l.length = n := by
  rw [hp.length_eq, upTo_len]
  omega
theorem perm_lo {i : Nat} (h : i < n) : 0 ≤ nth l i ∧ nth l i < (n : Int) := by
  have hl := perm_len hp
  have hm : nth l i ∈ l := List.mem_of_getElem? (nth_get (by omega))
  exact upTo_mem.mp (hp.mem_iff.mp hm)
theorem perm_inj {i k : Nat} (hi : i < n) (hk : k < n) (e : nth l i = nth l k) : i = k := by
  have hl := perm_len hp
  have nd : l.Nodup := hp.nodup_iff.mpr (upTo_nodup n)
  have h1 := nth_get (l := l) (i := i) (by omega)
  have h2 := nth_get (l := l) (i := k) (by omega)
  rw [List.getElem?_eq_getElem (by omega)] at h1 h2
  rw [e, ← Option.some.inj h2] at h1
  exact (List.getElem_inj nd).mp (Option.some.inj h1)
end
theorem mod_inj {n r c d : Int} (hc : 0 ≤ c) (hc2 : c < n) (hd : 0 ≤ d) (hd2 : d < n) (h : (r + c) % n = (r + d) % n) : c = d := by
  have h1 : (r + c - (r + d)) % n = 0 := Int.emod_eq_emod_iff_emod_sub_eq_zero.mp h
  have h2 : r + c - (r + d) = c - d := by omega
  rw [h2] at h1
  have h3 : n ∣ c - d := Int.dvd_of_emod_eq_zero h1
  obtain ⟨k, hk⟩ := h3
  have hk0 : k = 0 := by
    by_cases h0 : k = 0
    · exact h0
    · have : n ≤ n * k ∨ n * k ≤ -n := by
        rcases Int.lt_or_gt_of_ne h0 with z | z
        · right
          have : k ≤ -1 := by omega
          have h5 : n * k ≤ n * (-1) := Int.mul_le_mul_of_nonneg_left this (by omega)
          omega
        · left
          have : 1 ≤ k := by omega
          have h5 : n * 1 ≤ n * k := Int.mul_le_mul_of_nonneg_left this (by omega)
          omega
      omega
  rw [hk0, Int.mul_zero] at hk
  omega
/-- rows, columns and things mixed -/
def mix (n : Nat) (rs cs ts : List Int) (i j : Nat) : Int := nth ts ((nth rs i + nth cs j) % (n : Int)).toNat
theorem mix_is {n : Nat} {rs cs ts : List Int} (hr : rs.Perm (upTo n)) (hc : cs.Perm (upTo n)) (ht : ts.Perm (upTo n)) : Is n (mix n rs cs ts) := by
  have place : ∀ i j, i < n → ((nth rs i + nth cs j) % (n : Int)).toNat < n := fun i j hi => by
    have h1 := Int.emod_lt_of_pos (nth rs i + nth cs j) (show (0 : Int) < n by omega)
    have h2 := Int.emod_nonneg (nth rs i + nth cs j) (show (n : Int) ≠ 0 by omega)
    omega
  have eq_of : ∀ i j k m, i < n → k < n → mix n rs cs ts i j = mix n rs cs ts k m → (nth rs i + nth cs j) % (n : Int) = (nth rs k + nth cs m) % (n : Int) := fun i j k m hi hk e => by
    have h := perm_inj ht (place i j hi) (place k m hk) e
    have h1 := Int.emod_nonneg (nth rs i + nth cs j) (show (n : Int) ≠ 0 by omega)
    have h2 := Int.emod_nonneg (nth rs k + nth cs m) (show (n : Int) ≠ 0 by omega)
    omega
  refine ⟨fun i j hi hj => perm_lo ht (place i j hi), fun i j k hi hj hk e => ?_, fun i k j hi hk hj e => ?_⟩
  · have h := eq_of i j i k hi hi e
    have a := perm_lo hc hj
    have b := perm_lo hc hk
    exact perm_inj hc hj hk (mod_inj a.1 a.2 b.1 b.2 h)
  · have h := eq_of i j k j hi hk e
    have a := perm_lo hr hi
    have b := perm_lo hr hk
    rw [Int.add_comm, Int.add_comm (nth rs k)] at h
    exact perm_inj hr hi hk (mod_inj a.1 a.2 b.1 b.2 h)
/-- four cells exchanged -/
def sw (f : Nat → Nat → Int) (a b c d : Nat) (i j : Nat) : Int := if (i = a ∨ i = b) ∧ (j = c ∨ j = d) then f (if i = a then b else a) j else f i j
theorem sw_is {n : Nat} {f : Nat → Nat → Int} {a b c d : Nat} (h : Is n f) (ha : a < n) (hb : b < n) (hc : c < n) (hd : d < n) (hab : a ≠ b) (hcd : c ≠ d) (e1 : f b d = f a c) (e2 : f b c = f a d) : Is n (sw f a b c d) := by
  let σ : Nat → Nat := fun i => if i = a then b else if i = b then a else i
  let ρ : Nat → Nat := fun j => if j = c then d else if j = d then c else j
  have σlt : ∀ i, i < n → σ i < n := fun i hi => by
    show (if i = a then b else if i = b then a else i) < n
    split
    · exact hb
    · split
      · exact ha
      · exact hi
  have ρlt : ∀ j, j < n → ρ j < n := fun j hj => by
    show (if j = c then d else if j = d then c else j) < n
    split
    · exact hd
    · split
      · exact hc
      · exact hj
  have σinj : ∀ i k, σ i = σ k → i = k := fun i k e => by
    have e' : (if i = a then b else if i = b then a else i) = (if k = a then b else if k = b then a else k) := e
    split at e' <;> split at e' <;> (try split at e') <;> (try split at e') <;> omega
  have ρinj : ∀ i k, ρ i = ρ k → i = k := fun i k e => by
    have e' : (if i = c then d else if i = d then c else i) = (if k = c then d else if k = d then c else k) := e
    split at e' <;> split at e' <;> (try split at e') <;> (try split at e') <;> omega
  have byCol : ∀ i j, sw f a b c d i j = if j = c ∨ j = d then f (σ i) j else f i j := fun i j => by
    show (if (i = a ∨ i = b) ∧ (j = c ∨ j = d) then f (if i = a then b else a) j else f i j) = if j = c ∨ j = d then f (if i = a then b else if i = b then a else i) j else f i j
    by_cases hj : j = c ∨ j = d
    · by_cases i1 : i = a
      · simp [hj, i1]
      · by_cases i2 : i = b
        · simp [hj, i2, Ne.symm hab]
        · simp [hj, i1, i2]
    · simp [hj]
  have byRow : ∀ i j, sw f a b c d i j = if i = a ∨ i = b then f i (ρ j) else f i j := fun i j => by
    show (if (i = a ∨ i = b) ∧ (j = c ∨ j = d) then f (if i = a then b else a) j else f i j) = if i = a ∨ i = b then f i (if j = c then d else if j = d then c else j) else f i j
    by_cases hi : i = a ∨ i = b
    · by_cases j1 : j = c
      · subst j1
        rcases hi with rfl | rfl
        · simp [e2]
        · simp [Ne.symm hab, e1]
      · by_cases j2 : j = d
        · subst j2
          rcases hi with rfl | rfl
          · simp [j1, e1]
          · simp [j1, Ne.symm hab, e2]
        · simp [j1, j2, hi]
    · simp [hi]
  refine ⟨fun i j hi hj => ?_, fun i j k hi hj hk e => ?_, fun i k j hi hk hj e => ?_⟩
  · rw [byCol]
    split
    · exact h.lo _ _ (σlt i hi) hj
    · exact h.lo _ _ hi hj
  · rw [byRow, byRow] at e
    split at e
    · exact ρinj _ _ (h.row _ _ _ hi (ρlt j hj) (ρlt k hk) e)
    · exact h.row _ _ _ hi hj hk e
  · rw [byCol, byCol] at e
    split at e
    · exact σinj _ _ (h.col _ _ _ (σlt i hi) (σlt k hk) hj e)
    · exact h.col _ _ _ hi hk hj e
end Lat

namespace K42
open PySem L2 VK
def top (i : Nat) : Stmt := PySem.Challenge.pw_solvedbothsides_k42_whole_formulas_solve.main.body.getD i (.Pass ⟨0, 0, 0, 0⟩)
abbrev s_law_deck : Stmt := top 15
abbrev s_law_take : Stmt := top 16
abbrev s_law_pick : Stmt := top 17
abbrev s_law_mixed : Stmt := top 18
theorem scB : FnScope ["_law_script", "_law_great", "_law_small", "_law_cell", "_law_mixed_here"] ["_law_script"] (defScope s_law_deck) := ⟨rfl, rfl, rfl, by decide +kernel, rfl, by decide +kernel, by decide +kernel⟩
theorem scD : FnScope ["_law_deck_here", "_law_many", "_law_digit", "_law_mixed_here"] ["_law_deck_here", "_law_many"] (defScope s_law_take) := ⟨rfl, rfl, rfl, by decide +kernel, rfl, by decide +kernel, by decide +kernel⟩
theorem scP : FnScope ["_law_deck_here", "_law_some"] ["_law_deck_here", "_law_some"] (defScope s_law_pick) := ⟨rfl, rfl, rfl, by decide +kernel, rfl, by decide +kernel, by decide +kernel⟩
theorem scM : FnScope ["_law_deck_here", "_law_many", "_law_left", "_law_found"] ["_law_deck_here", "_law_many"] (defScope s_law_mixed) := ⟨rfl, rfl, rfl, by decide +kernel, rfl, by decide +kernel, by decide +kernel⟩
def spBag (K : PySem.W.Frag) : Sp := fun vs H Q _ => ∃ (a : Addr) (ns : List Int), vs = [.ref a] ∧ SqL K H a (ns.map V.int) ∧ ns.length ≤ 63 ∧ ∀ b H', Same H H' → BagAt b H' → Q (.ref b) H'
/-- 0, 1, .. below m -/
def upTo (m : Int) : List Int := (List.range m.toNat).map fun i : Nat => (i : Int)
def spMixed : Sp := fun vs H Q _ => ∃ b m, vs = [.ref b, .int m] ∧ BagAt b H ∧ 0 ≤ m ∧ m ≤ 1000 ∧ ∀ (p : Addr) (ns : List Int) (H' : Hp), Keep b H H' → BagAt b H' → off b H' p = some (.lst (ns.map V.int)) → ns.Perm (upTo m) → Q (.ref p) H'
theorem upTo_rg (m : Int) : rgV 0 m = (upTo m).map V.int := by
  unfold rgV upTo
  rw [List.map_map, Int.sub_zero]
  refine List.map_congr_left fun i _ => ?_
  show V.int (0 + (i : Int)) = V.int (i : Int)
  rw [Int.zero_add]
theorem upTo_len (m : Int) : (upTo m).length = m.toNat := by
  unfold upTo
  rw [List.length_map, List.length_range]
theorem upTo_nodup (m : Int) : (upTo m).Nodup := by
  unfold upTo
  refine List.Pairwise.map _ (fun a b h => ?_) List.nodup_range
  omega
theorem upTo_mem {m x : Int} : x ∈ upTo m ↔ 0 ≤ x ∧ x < m := by
  unfold upTo
  rw [List.mem_map]
  constructor
  · rintro ⟨i, hi, rfl⟩
    rw [List.mem_range] at hi
    omega
  · intro h
    exact ⟨x.toNat, by rw [List.mem_range]; omega, by omega⟩
theorem perm_erase {α : Type} : ∀ (l : List α) (i : Nat) (h : i < l.length), (l[i] :: l.eraseIdx i).Perm l
  | x :: l, 0, h => List.Perm.refl _
  | x :: l, i + 1, h => by
    have h' : i < l.length := Nat.lt_of_succ_lt_succ h
    have ih := perm_erase l i h'
    exact (List.Perm.swap x l[i] (l.eraseIdx i)).trans (List.Perm.cons x ih)
/-! ### ints as data -/
theorem lay_ints : ∀ ns : List Int, PyData.canLayAll0 (ns.map PyData.int) = true
  | [] => by simp only [List.map_nil, PyData.canLayAll0]
  | n :: ns => by
    rw [List.map_cons, PyData.canLayAll0, lay_ints ns]
    simp [PyData.canLay0]
theorem deep_ints : ∀ ns : List Int, PyData.depthAll (ns.map PyData.int) = 0
  | [] => by simp only [List.map_nil, PyData.depthAll]
  | n :: ns => by
    rw [List.map_cons, PyData.depthAll, deep_ints ns]
    simp [PyData.depth]
theorem shaped_ints (ns : List Int) : SeqAt.shaped (.list (ns.map PyData.int)) = true := by
  show (PyData.canLay0 (.list (ns.map PyData.int)) && decide (PyData.depth (.list (ns.map PyData.int)) ≤ 64)) = true
  rw [Bool.and_eq_true]
  refine ⟨by simp only [PyData.canLay0]; exact lay_ints ns, decide_eq_true ?_⟩
  simp only [PyData.depth, deep_ints]
  decide
theorem dp_ints {K : PySem.W.Frag} {H : Hp} : ∀ ns : List Int, DpAll K H (ns.map V.int) (ns.map PyData.int)
  | [] => .nil
  | n :: ns => .cons (.int n) (dp_ints ns)
theorem eqv_ints : ∀ ns ms : List Int, PyData.eqvAll (ns.map PyData.int) (ms.map PyData.int) = decide (ns = ms)
  | [], [] => by simp [PyData.eqvAll]
  | [], m :: ms => by simp [PyData.eqvAll]
  | n :: ns, [] => by simp [PyData.eqvAll]
  | n :: ns, m :: ms => by
    rw [List.map_cons, List.map_cons, PyData.eqvAll, eqv_ints ns ms]
    by_cases h : n = m
    · subst h
      by_cases h2 : ns = ms
      · simp [h2, PyData.eqv]
      · simp [h2, PyData.eqv]
    · simp [h, PyData.eqv]
section
variable {P : Program} {w : World} {K : PySem.W.Frag} {mg : Str → Option Value} {base : Heap}
theorem ok_bag (D : DefAt K mg "_law_deck" s_law_deck ["_law_script"]) (b_len : mg "len" = none) (b_abs : mg "abs" = none) (b_int : mg "int" = none) : CalG P w K mg base 1 "_law_deck" (spBag K) := by
  have sc := scB
  refine def_ok D sc (fun vs H Q E h => ?_) fun f cdv A outer s H vs Q E gA hr h => ?_
  · obtain ⟨a, ns, rfl, _⟩ := h
    rfl
  obtain ⟨a, ns, rfl, hS, h63, q⟩ := h
  refine ⟨_, (pss_cons (ps_par (i := 1) (j := 2) rfl sc.nd rfl rfl (by decide) rfl rfl (pa_cons pe_int (pa_cons (pe_op op_add pe_int (pe_op op_mul pe_int (pe_callB (call_len_seq) (by rfl) b_len PySem.boot_len (pa_cons (pv 0) pa_nil)))) pa_nil)) (by rfl))
    (pss_cons (ps_for PassesOwn.never rfl (pi_list (pe_slice sl_list (pv 0) po_none (po_some pe_int))) (pg_name (i := 3) sc.nd rfl (.inl rfl)) (pss_one (ps_if (pt_cmpR op_ge (pv 3) (pe_op op_pow pe_int pe_int) (nomark _)) (pss_one (ps_set (i := 1) sc.nd rfl (.inl rfl) (pe_op op_sub (pe_op op_add (pe_op op_mul (pv 1) pe_int) (pv 3)) (pe_op op_pow pe_int pe_int)))) (pss_cons (ps_set (i := 4) sc.nd rfl (.inl rfl) (pe_op op_add (pe_op op_mul (pv 2) pe_int) (pe_op op_mul pe_int (pe_callB (call_abs) (by rfl) b_abs (by decide +kernel) (pa_cons (pv 3) pa_nil)))))
    (pss_one (ps_set (i := 2) sc.nd rfl (.inl rfl) (pe_op op_mod (pe_callTy call_int1 (by rfl) b_int (by decide +kernel) (pa_cons (pe_op op_add (pv 4) (pe_callTy call_int1 (by rfl) b_int (by decide +kernel) (pa_cons (pe_cmpR op_lt (pv 3) pe_int (nomark _)) pa_nil))) pa_nil)) pe_int)))))))
    (pss_one (ps_ret (pe_lst (pa_cons (pv 1) (pa_cons (pv 2) (pa_cons pe_int pa_nil)))))))), ?_⟩
  refine ⟨_, rfl, a, _, rfl, .inl hS, _, _, rfl, rfl, .inl ⟨by decide, by decide⟩, _, _, rfl, rfl, _, _, rfl, ?_⟩
  refine ⟨_, rfl, 63, rfl, a, _, rfl, hS, fun p np => ?_⟩
  have s1 : Same H (upd H p (.lst (cutV (ns.map V.int) none (some 63)))) := same_new np
  have hl : (ns.map V.int).length = ns.length := List.length_map _
  refine ⟨p, rfl, ⟨_, SqL.of upd_same⟩, for_list (xs := cutV (ns.map V.int) none (some 63)) (fun i σ Hc => Hc = upd H p (.lst (cutV (ns.map V.int) none (some 63))) ∧ ∃ (g x : Int) (y z : Option V), σ = [some (.ref a), some (.int g), some (.int x), y, z] ∧ 0 ≤ g ∧ 0 ≤ x ∧ x < 2305843009213693952)
    ⟨rfl, 0, _, none, none, rfl, Int.le_refl 0, ?_, ?_⟩ (fun i σ Hc _ hp => ?_) (fun i v σ Hc hi hp => ?_) (fun σ Hc hp => ?_)⟩
  · rw [hl]
    omega
  · rw [hl]
    omega
  · obtain ⟨rfl, _⟩ := hp
    exact SqL.of upd_same
  · obtain ⟨rfl, g, x, y, z, rfl, hg, hx0, hx1⟩ := hp
    have hm : v ∈ ns.map V.int := by
      have z := List.mem_of_getElem? hi
      unfold cutV at z
      exact List.mem_of_mem_drop (List.mem_of_mem_take z)
    obtain ⟨c, _, rfl⟩ := List.mem_map.mp hm
    refine ⟨_, rfl, _, _, rfl, rfl, ⟨by decide, by decide, by decide⟩, _, _, rfl, rfl, _, rfl, ?_⟩
    refine ite2 (fun t => ?_) (fun t => ?_)
    · have t' := of_decide_eq_true t
      refine ⟨_, rfl, _, _, rfl, rfl, .inr ⟨by decide, by decide⟩, _, rfl, _, _, rfl, rfl, _, _, rfl, rfl, ⟨by decide, by decide, by decide⟩, _, _, rfl, rfl, ?_⟩
      refine ⟨rfl, _, _, _, _, rfl, ?_, hx0, hx1⟩
      omega
    · refine ⟨_, rfl, _, _, rfl, rfl, .inr ⟨by decide, by decide⟩, _, rfl, c, rfl, _, _, rfl, rfl, .inl ⟨by decide, by decide⟩, _, _, rfl, rfl, ?_⟩
      refine ⟨_, rfl, _, rfl, _, _, rfl, rfl, .inr ⟨_, rfl, _, _, rfl, rfl, .inl ⟨_, rfl, _, _, rfl, rfl, (by show (0 : Int) < 2305843009213693951; decide), ?_⟩⟩⟩
      exact ⟨rfl, _, _, _, _, rfl, hg, Int.emod_nonneg _ (by decide), Int.lt_trans (Int.emod_lt_of_pos _ (by decide)) (by decide)⟩
  · obtain ⟨rfl, g, x, y, z, rfl, hg, hx0, hx1⟩ := hp
    refine ⟨_, rfl, _, rfl, (by show 3 ≤ sizeLine; decide), fun b nb => ?_⟩
    exact q b _ (s1.trans (same_new nb)) ⟨g, x, 0, upd_same, hg, hx0, hx1, Int.le_refl 0⟩
theorem ok_draw (D : DefAt K mg "_law_take" s_law_take ["_law_deck_here", "_law_many"]) (b_int : mg "int" = none) : CalG P w K mg base 1 "_law_take" spDraw := by
  have sc := scD
  refine def_ok D sc (fun vs H Q E h => ?_) fun f cdv A outer s H vs Q E gA hr h => ?_
  · obtain ⟨b, m, rfl, _⟩ := h
    rfl
  obtain ⟨b, m, rfl, hb, h0, h1, q⟩ := h
  obtain ⟨g, x, n, e, hg, hx0, hx1, hn⟩ := hb
  have hdiv : CDivW (0 : Int) m := wide_div (b := 30) h0 (by omega) (by decide) (by decide)
  refine ⟨_, (pss_cons (ps_if (pt_cmpR op_gt (pe_ix ix_list (pv 0) pe_int (fun _ _ => rfl)) pe_int (nomark _)) (pss_cons (ps_set (i := 2) sc.nd rfl (.inl rfl) (pe_op op_mod (pe_callTy call_int1 (by rfl) b_int (by decide +kernel) (pa_cons (pe_ix ix_list (pv 0) pe_int (fun _ _ => rfl)) pa_nil)) (pv 1)))
    (pss_cons (ps_asg (pe_op op_fdivW (pe_ix ix_list (pv 0) pe_int (fun _ _ => rfl)) (pv 1)) (pg_sub (pv 0) pe_int set_list))
    (pss_one (ps_ret (pv 2))))) pss_nil)
    (pss_cons (ps_asg (pe_op op_add (pe_ix ix_list (pv 0) pe_int (fun _ _ => rfl)) pe_int) (pg_sub (pv 0) pe_int set_list))
    (pss_cons (ps_set (i := 3) sc.nd rfl (.inl rfl) (pe_op op_add (pe_op op_mul (pe_ix ix_list (pv 0) pe_int (fun _ _ => rfl)) pe_int) (pe_op op_mul pe_int (pe_ix ix_list (pv 0) pe_int (fun _ _ => rfl)))))
    (pss_cons (ps_asg (pe_op op_mod (pe_callTy call_int1 (by rfl) b_int (by decide +kernel) (pa_cons (pv 3) pa_nil)) pe_int) (pg_sub (pv 0) pe_int set_list))
    (pss_one (ps_ret (pe_op op_mod (pe_op op_fdivW (pe_op op_mod (pe_callTy call_int1 (by rfl) b_int (by decide +kernel) (pa_cons (pe_op op_mul (pe_ix ix_list (pv 0) pe_int (fun _ _ => rfl)) (pe_ix ix_list (pv 0) pe_int (fun _ _ => rfl))) pa_nil)) pe_int) pe_int) (pv 1)))))))), ?_⟩
  refine ⟨_, rfl, b, _, 0, _, rfl, rfl, SqL.of e, atI_nat (j := 0) rfl, _, _, rfl, rfl, _, rfl, ?_⟩
  refine ite2 (fun c => ?_) (fun c => ?_)
  · refine ⟨_, rfl, b, _, 0, _, rfl, rfl, SqL.of e, atI_nat (j := 0) rfl, .inl ⟨_, rfl, _, rfl, _, _, rfl, rfl, h0, ?_⟩⟩
    refine ⟨_, rfl, b, _, 0, _, rfl, rfl, SqL.of e, atI_nat (j := 0) rfl, _, rfl, _, _, rfl, rfl, hdiv, _, rfl, b, _, 0, 0, rfl, rfl, e, rfl, ?_⟩
    refine ⟨_, rfl, q _ _ Keep.at ⟨_, _, _, upd_same, Int.ediv_nonneg hg (Int.le_of_lt h0), hx0, hx1, hn⟩ (Int.emod_nonneg _ (by omega)) (Int.emod_lt_of_pos _ h0)⟩
  · refine ⟨_, rfl, b, _, 2, _, rfl, rfl, SqL.of e, atI_nat (j := 2) rfl, _, _, rfl, rfl, _, rfl, b, _, 2, 2, rfl, rfl, e, rfl, ?_⟩
    have e1 : (upd H b (.lst ([V.int g, .int x, .int n].set 2 (.int (n + 1))))) b = some (.lst [.int g, .int x, .int (n + 1)]) := upd_same
    have k1 : Keep b H (upd H b (.lst ([V.int g, .int x, .int n].set 2 (.int (n + 1))))) := Keep.at
    generalize upd H b (.lst ([V.int g, .int x, .int n].set 2 (.int (n + 1)))) = H1 at e1 k1
    refine ⟨_, rfl, b, _, 1, _, rfl, rfl, SqL.of e1, atI_nat (j := 1) rfl, _, _, rfl, rfl, .inr ⟨by decide, by decide⟩, _, rfl, b, _, 2, _, rfl, rfl, SqL.of e1, atI_nat (j := 2) rfl, _, _, rfl, rfl, .inl ⟨by decide, by decide⟩, _, _, rfl, rfl, ?_⟩
    refine ⟨_, rfl, .inl ⟨_, rfl, _, _, rfl, rfl, (by show (0 : Int) < 2305843009213693951; decide), _, rfl, b, _, 1, 1, rfl, rfl, e1, rfl, ?_⟩⟩
    have hy0 : 0 ≤ (x * 3202034522624059733 + 1181783497276652981 * (n + 1)) % 2305843009213693951 := Int.emod_nonneg _ (by decide)
    have hy1 : (x * 3202034522624059733 + 1181783497276652981 * (n + 1)) % 2305843009213693951 < 2305843009213693951 := Int.emod_lt_of_pos _ (by decide)
    have e2 : ∀ v, (upd H1 b (.lst ([V.int g, .int x, .int (n + 1)].set 1 v))) b = some (.lst [.int g, v, .int (n + 1)]) := fun v => upd_same
    refine ⟨_, rfl, b, _, 1, _, rfl, rfl, SqL.of (e2 _), atI_nat (j := 1) rfl, _, rfl, b, _, 1, _, rfl, rfl, SqL.of (e2 _), atI_nat (j := 1) rfl, _, _, rfl, rfl, .inl ⟨Int.lt_of_lt_of_le (by decide) hy0, Int.lt_trans hy1 (by decide)⟩, .inl ⟨_, rfl, _, _, rfl, rfl, (by show (0 : Int) < 2305843009213693921; decide), _, _, rfl, rfl, wide_div (b := 30) (by decide) (by decide) (by decide) (by decide), _, rfl, _, _, rfl, rfl, h0, ?_⟩⟩
    exact q _ _ (k1.trans Keep.at) ⟨_, _, _, e2 _, hg, hy0, Int.lt_trans hy1 (by decide), by omega⟩ (Int.emod_nonneg _ (by omega)) (Int.emod_lt_of_pos _ h0)
theorem ok_pick (D : DefAt K mg "_law_pick" s_law_pick ["_law_deck_here", "_law_some"]) (c__law_take : CalG P w K mg base 1 "_law_take" spDraw) (b_len : mg "len" = none) : CalG P w K mg base 2 "_law_pick" spPick := by
  have sc := scP
  refine def_ok D sc (fun vs H Q E h => ?_) fun f cdv A outer s H vs Q E gA hr h => ?_
  · obtain ⟨b, v, ds, rfl, _⟩ := h
    rfl
  obtain ⟨b, v, ds, rfl, hb, hd, hne, hl, q⟩ := h
  obtain ⟨a, xs, rfl, ha, hx⟩ := hd.lst_inv
  have elen := hx.length
  have hpos : 0 < ds.length := List.length_pos_iff.mpr hne
  refine ⟨_, (pss_one (ps_ret (pe_ix ix_list (pv 1) (pe_cg c__law_take gA hr (by omega) (by rfl) (pa_cons (pv 0) (pa_cons (pe_callB (call_len_seq) (by rfl) b_len PySem.boot_len (pa_cons (pv 1) pa_nil)) pa_nil))) (fun _ _ => rfl)))), ?_⟩
  refine ⟨_, rfl, _, rfl, _, rfl, a, xs, rfl, .inl (SqL.of (off_same _ _ ha)), b, _, rfl, hb, by omega, by omega, fun i H1 k1 b1 i0 i1 => ?_⟩
  have hi : i.toNat < ds.length := by omega
  obtain ⟨x, hx1, hdx⟩ := hx.get (i := i.toNat) (List.getElem?_eq_getElem hi)
  have ei : i = ((i.toNat : Nat) : Int) := by omega
  refine ⟨a, xs, i, x, rfl, rfl, SqL.of (off_same _ _ (k1 _ _ ha)), ?_, q x _ H1 k1 b1 (List.getElem_mem hi) (hdx.same k1)⟩
  rw [ei]
  exact atI_nat hx1
theorem ok_mixed (D : DefAt K mg "_law_mixed" s_law_mixed ["_law_deck_here", "_law_many"]) (c__law_take : CalG P w K mg base 1 "_law_take" spDraw) (b_len : mg "len" = none) (b_list : mg "list" = none) (b_range : mg "range" = none) : CalG P w K mg base 2 "_law_mixed" spMixed := by
  have sc := scM
  refine def_ok D sc (fun vs H Q E h => ?_) fun f cdv A outer s H vs Q E gA hr h => ?_
  · obtain ⟨b, m, rfl, _⟩ := h
    rfl
  obtain ⟨b, m, rfl, hb, hm0, hm1, q⟩ := h
  have hu64 : (A.deeper (PyProof.Rows.envOfC "_law_mixed" (defScope s_law_mixed) s.heap.objs.size f cdv)).units + 64 < cLine := by
    have := hr.un
    omega
  refine ⟨_, (pss_cons (ps_par (i := 2) (j := 3) rfl sc.nd rfl rfl (by decide) rfl rfl (pa_cons (pe_listRg rfl (by rfl) b_list (prg_1 (by rfl) b_range (pv 1))) (pa_cons (pe_lst pa_nil) pa_nil)) (by rfl))
    (pss_cons (ps_while PassesOwn.never (pt_cmpR (op_neD hu64) (pv 2) (pe_lst pa_nil) (nomark _)) (pss_cons (ps_expr (pe_bm PySem.F.plainAttrs_list PySem.F.slot_list_append PySem.F.type_list_append mt_append (pv 3) (pa_cons (pe_ix ix_list (pv 2) (pe_cg c__law_take gA hr (by omega) (by rfl) (pa_cons (pv 0) (pa_cons (pe_callB (call_len_seq) (by rfl) b_len PySem.boot_len (pa_cons (pv 2) pa_nil)) pa_nil))) (fun _ _ => rfl)) pa_nil)))
    (pss_one (ps_expr (pe_bm PySem.F.plainAttrs_list PySem.F.slot_list_remove PySem.F.type_list_remove mt_remove (pv 2) (pa_cons (pe_ix ix_list (pv 3) (pe_un un_neg pe_int) (fun _ _ => rfl)) pa_nil))))))
    (pss_one (ps_ret (pv 3))))), ?_⟩
  refine ⟨_, rfl, m, rfl, ⟨by omega, by omega, by omega, by omega, by omega⟩, fun pl npl => ⟨(by show 0 ≤ sizeLine; decide), fun pf npf => ⟨_, _, rfl, ?_⟩⟩⟩
  rw [upTo_rg] at npf ⊢
  have nlf : pf ≠ pl := fun e => by
    rw [e, upd_same] at npf
    cases npf
  have npf0 : H pf = none := by
    rw [upd_ne nlf] at npf
    exact npf
  have b1 := hb.same (same_new (o := .lst ((upTo m).map V.int)) npl)
  have o1 := off_new (o := .lst ((upTo m).map V.int)) hb npl
  have b2 := b1.same (same_new (o := .lst []) npf)
  have o2 := off_new (o := .lst []) b1 npf
  have k1 : Keep b H (upd H pl (.lst ((upTo m).map V.int))) := Keep.of (same_new npl)
  have k2 := Keep.of (b := b) (same_new (o := .lst []) npf)
  refine ⟨fun k σ Hc => ∃ F L : List Int, σ = [some (.ref b), some (.int m), some (.ref pl), some (.ref pf)] ∧ Keep b H Hc ∧ BagAt b Hc ∧ off b Hc pl = some (.lst (L.map V.int)) ∧ off b Hc pf = some (.lst (F.map V.int)) ∧ (F ++ L).Perm (upTo m) ∧ k = L.length,
    ⟨_, [], upTo m, rfl, k1.trans k2, b2, k2 _ _ o1, o2, List.Perm.refl _, rfl⟩, ?_⟩
  rintro k σ Hc ⟨F, L, rfl, kc, bc, ol, of_, hp, rfl⟩
  refine ⟨_, rfl, (by show 0 ≤ sizeLine; decide), fun t nt => ⟨.list (L.map PyData.int), .list (([] : List Int).map PyData.int), .lst (SqL.of (off_same _ _ (Keep.of (b := b) (same_new nt) _ _ ol))) (dp_ints L), .lst (SqL.of upd_same) .nil, shaped_ints L, shaped_ints [], _, rfl, ?_⟩⟩
  have bt := bc.same (same_new (o := .lst []) nt)
  have kt := Keep.of (b := b) (same_new (o := .lst []) nt)
  have ee : PyData.eqv (.list (L.map PyData.int)) (.list (([] : List Int).map PyData.int)) = decide (L = []) := by
    rw [PyData.eqv]
    exact eqv_ints L []
  rw [ee]
  generalize upd Hc t (.lst []) = Ht at bt kt
  have hlen := hp.length_eq
  rw [List.length_append, upTo_len] at hlen
  have nd : L.Nodup := (List.nodup_append.mp ((hp.nodup_iff).mpr (upTo_nodup m))).2.1
  by_cases hL : L = []
  · subst hL
    refine iteF ⟨_, rfl, q pf F Ht (kc.trans kt) bt (kt _ _ of_) ?_⟩
    rw [List.append_nil] at hp
    exact hp
  · rw [decide_eq_false hL]
    refine iteT ?_
    have hpos : 0 < L.length := List.length_pos_iff.mpr hL
    refine ⟨fun σ' H' => ∃ k', k' < L.length ∧ ∃ F L : List Int, σ' = [some (.ref b), some (.int m), some (.ref pl), some (.ref pf)] ∧ Keep b H H' ∧ BagAt b H' ∧ off b H' pl = some (.lst (L.map V.int)) ∧ off b H' pf = some (.lst (F.map V.int)) ∧ (F ++ L).Perm (upTo m) ∧ k' = L.length, fun _ _ z => z, ?_⟩
    have hll : (L.map V.int).length = L.length := List.length_map _
    refine ⟨_, rfl, .inl ⟨rfl, _, SqL.of (off_same _ _ (kt _ _ of_))⟩, _, rfl, _, rfl, _, rfl, pl, _, rfl, .inl (SqL.of (off_same _ _ (kt _ _ ol))), b, _, rfl, bt, by omega, by omega, fun i H1 k1' b1' i0 i1 => ?_⟩
    obtain ⟨ix, rfl⟩ : ∃ ix : Nat, i = (ix : Int) := ⟨i.toNat, by omega⟩
    have hi : ix < L.length := by omega
    have gl : (L.map V.int)[ix]? = some (.int L[ix]) := by
      rw [List.getElem?_map, List.getElem?_eq_getElem hi]
      rfl
    have ol1 := k1' _ _ (kt _ _ ol)
    have of1 := k1' _ _ (kt _ _ of_)
    refine ⟨pl, _, (ix : Int), .int L[ix], rfl, rfl, SqL.of (off_same _ _ ol1), atI_nat gl, pf, _, _, rfl, rfl, off_same _ _ of1, ?_, ?_⟩
    · rw [List.length_map]
      exact small1000 (by omega)
    have nbf := (off_get of1).1
    have nbl := (off_get ol1).1
    have kH1 : Keep b H H1 := (kc.trans kt).trans k1'
    have e2f : (upd H1 pf (.lst (F.map V.int ++ [.int L[ix]]))) pf = some (.lst (F.map V.int ++ [.int L[ix]])) := upd_same
    have e2l : (upd H1 pf (.lst (F.map V.int ++ [.int L[ix]]))) pl = some (.lst (L.map V.int)) := by
      rw [upd_ne (fun e => nlf e.symm)]
      exact off_same _ _ ol1
    refine ⟨_, rfl, .inl ⟨rfl, _, SqL.of e2l⟩, _, rfl, 1, rfl, pf, _, -1, .int L[ix], rfl, rfl, SqL.of e2f, atI_last _ _, pl, L, L[ix], ix, rfl, rfl, e2l, List.getElem?_eq_getElem hi, fun j hj e => ?_, ?_⟩
    · have hjl : j < L.length := by omega
      rw [List.getElem?_eq_getElem hjl] at e
      have e' := (List.getElem_inj nd).mp (Option.some.inj e)
      omega
    have h3 : ∀ z o, z ≠ pf → z ≠ pl → H1 z = some o → (upd (upd H1 pf (.lst (F.map V.int ++ [.int L[ix]]))) pl (.lst ((L.eraseIdx ix).map V.int))) z = some o := fun z o z1 z2 e => by
      rw [upd_ne z2, upd_ne z1]
      exact e
    refine ⟨(L.eraseIdx ix).length, ?_, F ++ [L[ix]], L.eraseIdx ix, rfl, fun z o e => ?_, ?_, off_put nbl upd_same, off_put nbf ?_, ?_, rfl⟩
    · rw [List.length_eraseIdx, if_pos hi]
      omega
    · have e1 := kH1 _ _ e
      have e0 := (off_get e).2
      exact off_put (off_get e).1 (h3 z o (ne_of_none e0 npf0) (ne_of_none e0 npl) (off_get e1).2)
    · obtain ⟨g, x, n, eb, r⟩ := b1'
      exact ⟨g, x, n, h3 _ _ (fun e => nbf e.symm) (fun e => nbl e.symm) eb, r⟩
    · rw [upd_ne nlf, e2f, List.map_append]
      rfl
    · rw [List.append_assoc]
      exact (List.Perm.append_left F (perm_erase L ix hi)).trans hp
end
end K42

namespace K42
open PySem L2 VK
abbrev s_law_table : Stmt := top 19
def tabN : List Str := ["_law_deck_here", "_law_many", "_law_rows", "_law_columns", "_law_things", "_law_one", "_law_other", "_law_found", "_law_turn", "_law_left", "_law_right", "_law_pair", "_law_row"]
theorem scT : FnScope tabN ["_law_deck_here", "_law_many"] (defScope s_law_table) := ⟨rfl, rfl, rfl, by decide +kernel, rfl, by decide +kernel, by decide +kernel⟩
def outScope : Scope := { kind := .function, names := [(".0", .local), ("_law_one", .cell), ("range", .globalImplicit), ("_law_columns", .cell), ("_law_many", .cell), ("_law_rows", .cell), ("_law_things", .cell)], isGenerator := false, isCoroutine := false }
def teCell (K : PySem.W.Frag) : TE := tOp (rIxL K) (tVar 4) (tOp (rI (fun _ j => 0 < j) fun i j => .int (i % j)) (tCB (fun xs H Q => (∃ i, xs = [.int i] ∧ Q (.int i) H) ∨ ∃ k, xs = [.bl k] ∧ Q (.int (if k then 1 else 0)) H)
  (tCons (tOp (rI0 fun i j => .int (i + j)) (tOp (rIxL K) (tVar 2) (tVar 5)) (tOp (rIxL K) (tVar 3) (tVar 6))) tNil)) (tVar 1))
def TabAt (H : Hp) (v : V) (n : Nat) (g : Nat → Nat → Int) : Prop := ∃ a, ∃ as : List Addr, v = .ref a ∧ H a = some (.tup (as.map V.ref)) ∧ as.length = n ∧ ∀ k t, as[k]? = some t → FzT H t ((List.range n).map fun j => V.int (g k j))
theorem TabAt.same {H H' : Hp} {v : V} {n : Nat} {g : Nat → Nat → Int} (h : TabAt H v n g) (s : Same H H') : TabAt H' v n g := by
  obtain ⟨a, as, e, ha, l, r⟩ := h
  exact ⟨a, as, e, s _ _ ha, l, fun k t hk => (r k t hk).same s⟩
def tabD (n : Nat) (f : Nat → Nat → Int) : PyData := .tuple ((List.range n).map fun i => .tuple ((List.range n).map fun j => .int (f i j)))
def spTable : Sp := fun vs H Q _ => ∃ (b : Addr) (n : Nat), vs = [.ref b, .int (n : Int)] ∧ BagAt b H ∧ 1 ≤ n ∧ n ≤ 60 ∧ ∀ (r : V) (f : Nat → Nat → Int) (H' : Hp), Keep b H H' → BagAt b H' → TabAt (off b H') r n f → Lat.Is n f → Q r H'
def tFew (b : Addr) (n : Nat) : TE := fun σ H Q => σ[0]? = some (some (.ref b)) ∧ σ[1]? = some (some (.int (n : Int))) ∧ BagAt b H ∧ ∀ r H', Keep b H H' → BagAt b H' → 0 ≤ r → r < 5 → Q (.int r) H'
theorem few_ok (b : Addr) (n : Nat) : ∀ σ H Q, tFew b n σ H Q → tIf (tTest (tOp (rI0 fun i j => .bl (decide (j < i))) (tVar 1) (tC (.int 3)))) (tCall spDraw [] E0 (tCons (tVar 0) (tCons (tC (.int 5)) tNil))) (tC (.int 0)) σ H Q := fun σ H Q h =>
  ⟨_, h.2.1, _, _, rfl, rfl, _, rfl, ite2 (fun _ => ⟨_, h.1, b, 5, rfl, h.2.2.1, by decide, by decide, fun d H' k b' d0 d1 => h.2.2.2 d H' k b' d0 d1⟩) fun _ => h.2.2.2 0 H (Keep.refl b H) h.2.2.1 (by decide) (by decide)⟩
theorem at0 {xs : List V} {i : Nat} {v : V} (h : xs[i]? = some v) : atI xs (0 + (i : Int)) = some v := by
  rw [Int.zero_add]
  exact atI_nat h
theorem row_at {n j : Nat} (g : Nat → Int) (h : j < n) : ((List.range n).map fun k => V.int (g k))[j]? = some (.int (g j)) := by
  rw [List.getElem?_map, List.getElem?_range h]
  rfl
theorem row_set {n j : Nat} (g : Nat → Int) (v : Int) : ((List.range n).map fun k => V.int (g k)).set j (.int v) = (List.range n).map fun k => V.int (if k = j then v else g k) := by
  refine List.ext_getElem (by simp) fun i h1 h2 => ?_
  rw [List.getElem_set]
  simp only [List.getElem_map, List.getElem_range]
  by_cases e : j = i
  · rw [if_pos e, if_pos e.symm]
  · rw [if_neg e, if_neg fun z => e z.symm]
theorem row_congr {n : Nat} {g h : Nat → Int} (e : ∀ j, j < n → g j = h j) : ((List.range n).map fun k => V.int (g k)) = (List.range n).map fun k => V.int (h k) :=
  List.map_congr_left fun j hj => by rw [e j (List.mem_range.mp hj)]
theorem ixN_nat {n j : Nat} (h : j < n) : ixN n (j : Int) = some j := by
  unfold ixN
  rw [if_pos (by omega), if_pos (by omega), Int.toNat_natCast]
theorem nth_map {l : List Int} {i : Nat} (h : i < l.length) : (l.map V.int)[i]? = some (.int (Lat.nth l i)) := by
  rw [List.getElem?_map, Lat.nth_get h]
  rfl
theorem daAll_of {H : Hp} : ∀ {vs : List V} {ds : List PyData}, vs.length = ds.length → (∀ (i : Nat) (v : V) (d : PyData), vs[i]? = some v → ds[i]? = some d → Da H v d) → DaAll H vs ds
  | [], [], _, _ => .nil
  | [], _ :: _, e, _ => by cases e
  | _ :: _, [], e, _ => by cases e
  | v :: vs, d :: ds, e, h => .cons (h 0 v d rfl rfl) (daAll_of (Nat.succ.inj e) fun i v d h1 h2 => h (i + 1) v d h1 h2)
theorem da_row {H : Hp} {n : Nat} {g : Nat → Int} : DaAll H ((List.range n).map fun j => V.int (g j)) ((List.range n).map fun j => PyData.int (g j)) := by
  refine daAll_of (by simp) fun i v d h1 h2 => ?_
  rw [List.getElem?_map] at h1 h2
  cases hr : (List.range n)[i]? with
  | none =>
    rw [hr] at h1
    cases h1
  | some k =>
    rw [hr] at h1 h2
    rw [← Option.some.inj h1, ← Option.some.inj h2]
    exact .int _
theorem lat_up {n : Nat} {l : List Int} (h : l.Perm (upTo (n : Int))) : l.Perm (Lat.upTo (n : Int)) := h
section
variable {P : Program} {w : World} {K : PySem.W.Frag} {mg : Str → Option Value} {base : Heap}
set_option maxHeartbeats 4000000 in
theorem ok_table (D : DefAt K mg "_law_table" s_law_table ["_law_deck_here", "_law_many"]) (c__law_take : CalG P w K mg base 1 "_law_take" spDraw) (c__law_mixed : CalG P w K mg base 2 "_law_mixed" spMixed) (b_int : mg "int" = none) (b_range : mg "range" = none) (b_tuple : mg "tuple" = none) : CalG P w K mg base 3 "_law_table" spTable := by
  have sc := scT
  refine def_ok D sc (fun vs H Q E h => ?_) fun f cdv A outer s H vs Q E gA hr h => ?_
  · obtain ⟨b, m, rfl, _⟩ := h
    rfl
  obtain ⟨b, n, rfl, hb, hn1, hn60, q⟩ := h
  have hu64 : (A.deeper (PyProof.Rows.envOfC "_law_table" (defScope s_law_table) s.heap.objs.size f cdv)).units + 64 < cLine := by
    have := hr.un
    omega
  refine ⟨_, (pss_cons (ps_asg (pe_tup (pa_cons (pe_cg c__law_mixed gA hr (by omega) (by rfl) (pa_cons (pv 0) (pa_cons (pv 1) pa_nil))) (pa_cons (pe_cg c__law_mixed gA hr (by omega) (by rfl) (pa_cons (pv 0) (pa_cons (pv 1) pa_nil))) (pa_cons (pe_cg c__law_mixed gA hr (by omega) (by rfl) (pa_cons (pv 0) (pa_cons (pv 1) pa_nil))) pa_nil)))) (pg_tup rfl (pgs_cons (pg_name (i := 2) sc.nd rfl (.inr rfl)) (pgs_cons (pg_name (i := 3) sc.nd rfl (.inr rfl)) (pgs_cons (pg_name (i := 4) sc.nd rfl (.inr rfl)) pgs_nil)))))
    (pss_cons (ps_setLc (i := 7) (own := [("_law_one", 5)]) (g := gName 5) (tt := tYes) (te := tLc (iRng1 (tCons (tVar 1) tNil)) (gName 6) tYes (teCell K) [6]) rfl sc.nd rfl rfl (sw_true rfl rfl rfl (by decide +kernel)) (pi_range1 rfl b_range (pa_cons (pv 1) pa_nil)) (blkOk_by (N := tabN) (sc := defScope s_law_table) (by decide +kernel)) (fun _ _ _ _ _ => pg_name (i := 5) sc.nd rfl (Or.inr rfl)) (fun _ _ _ _ _ => pts_nil) (fun _ _ _ _ _ => pe_lc (own := [("_law_other", 6)]) (g := gName 6) (tt := tYes) (te := teCell K) rfl sc.nd (pi_range1 rfl b_range (pa_cons (pv 1) pa_nil)) (blkOk_by (N := tabN) (sc := outScope) (by decide +kernel)) (fun _ _ _ _ _ => pg_name (i := 6) sc.nd rfl (Or.inl rfl)) (fun _ _ _ _ _ => pts_nil) (fun _ _ _ _ _ => (pe_ix ix_list (pv 4) (pe_op op_mod (pe_callTy call_int1 (by rfl) b_int (by decide +kernel) (pa_cons (pe_op op_add (pe_ix ix_list (pv 2) (pv 5) (fun _ _ => rfl)) (pe_ix ix_list (pv 3) (pv 6) (fun _ _ => rfl))) pa_nil)) (pv 1)) (fun _ _ => rfl)))))
    (pss_cons (ps_for PassesOwn.never rfl (pi_range1 rfl b_range (pa_cons (PE.imp (pe_ifExp (pt_cmpR op_gt (pv 1) pe_int (nomark _)) (pe_cg c__law_take gA hr (by omega) (by rfl) (pa_cons (pv 0) (pa_cons pe_int pa_nil))) pe_int) (few_ok b n)) pa_nil)) (pg_name (i := 8) sc.nd rfl (.inl rfl)) (pss_cons (ps_par (i := 5) (j := 6) rfl sc.nd rfl rfl (by decide) rfl rfl (pa_cons (pe_cg c__law_take gA hr (by omega) (by rfl) (pa_cons (pv 0) (pa_cons (pv 1) pa_nil))) (pa_cons (pe_cg c__law_take gA hr (by omega) (by rfl) (pa_cons (pv 0) (pa_cons (pv 1) pa_nil))) pa_nil)) (by rfl))
    (pss_cons (ps_par (i := 9) (j := 10) rfl sc.nd rfl rfl (by decide) rfl rfl (pa_cons (pe_cg c__law_take gA hr (by omega) (by rfl) (pa_cons (pv 0) (pa_cons (pv 1) pa_nil))) (pa_cons (pe_cg c__law_take gA hr (by omega) (by rfl) (pa_cons (pv 0) (pa_cons (pv 1) pa_nil))) pa_nil)) (by rfl))
    (pss_cons (ps_set (i := 11) sc.nd rfl (.inl rfl) (pe_lst (pa_cons (pe_ix ix_list (pe_ix ix_list (pv 7) (pv 5) (fun _ _ => rfl)) (pv 9) (fun _ _ => rfl)) (pa_cons (pe_ix ix_list (pe_ix ix_list (pv 7) (pv 5) (fun _ _ => rfl)) (pv 10) (fun _ _ => rfl)) pa_nil))))
    (pss_one (ps_if (PW.pt (pw_and (pt_cmpR op_ne (pv 5) (pv 6) (nomark _)) (pw_and (pt_cmpR op_ne (pv 9) (pv 10) (nomark _)) (pw_and1 (pt_cmpR (op_eqD hu64) (pe_lst (pa_cons (pe_ix ix_list (pe_ix ix_list (pv 7) (pv 6) (fun _ _ => rfl)) (pv 10) (fun _ _ => rfl)) (pa_cons (pe_ix ix_list (pe_ix ix_list (pv 7) (pv 6) (fun _ _ => rfl)) (pv 9) (fun _ _ => rfl)) pa_nil))) (pv 11) (nomark _)))))) (pss_cons (ps_asg (pe_tup (pa_cons (pe_ix ix_list (pv 11) pe_int (fun _ _ => rfl)) (pa_cons (pe_ix ix_list (pv 11) pe_int (fun _ _ => rfl)) pa_nil))) (pg_tup rfl (pgs_cons (pg_sub (pe_ix ix_list (pv 7) (pv 5) (fun _ _ => rfl)) (pv 9) set_list) (pgs_cons (pg_sub (pe_ix ix_list (pv 7) (pv 5) (fun _ _ => rfl)) (pv 10) set_list) pgs_nil))))
    (pss_one (ps_asg (pe_tup (pa_cons (pe_ix ix_list (pv 11) pe_int (fun _ _ => rfl)) (pa_cons (pe_ix ix_list (pv 11) pe_int (fun _ _ => rfl)) pa_nil))) (pg_tup rfl (pgs_cons (pg_sub (pe_ix ix_list (pv 7) (pv 6) (fun _ _ => rfl)) (pv 9) set_list) (pgs_cons (pg_sub (pe_ix ix_list (pv 7) (pv 6) (fun _ _ => rfl)) (pv 10) set_list) pgs_nil)))))) pss_nil))))))
    (pss_one (ps_ret (pe_tupleOf (by rfl) b_tuple (pe_lc (own := [("_law_row", 12)]) (g := gName 12) (tt := tYes) (te := tThen (tVar 12) (kTupF K)) rfl sc.nd (pi_list (pv 7)) (blkOk_by (N := tabN) (sc := defScope s_law_table) (by decide +kernel)) (fun _ _ _ _ _ => pg_name (i := 12) sc.nd rfl (Or.inl rfl)) (fun _ _ _ _ _ => pts_nil) (fun _ _ _ _ _ => pe_tupleF (by rfl) b_tuple (pv 12))))))))), ?_⟩
  -- rows, columns, things
  refine ⟨_, rfl, _, rfl, b, (n : Int), rfl, hb, by omega, by omega, fun p1 rs H1 k1 b1 o1 hp1 => ?_⟩
  refine ⟨_, rfl, _, rfl, b, (n : Int), rfl, b1, by omega, by omega, fun p2 cs H2 k2 b2 o2 hp2 => ?_⟩
  refine ⟨_, rfl, _, rfl, b, (n : Int), rfl, b2, by omega, by omega, fun p3 ts H3 k3 b3 o3 hp3 => ?_⟩
  refine ⟨(by show 3 ≤ sizeLine; decide), fun pt npt => ⟨pt, _, rfl, SqT.of upd_same, rfl, _, _, rfl, _, _, rfl, _, _, rfl, rfl, ?_⟩⟩
  have kt := Keep.of (b := b) (same_new (o := .tup [.ref p1, .ref p2, .ref p3]) npt)
  have bm := b3.same (same_new (o := .tup [.ref p1, .ref p2, .ref p3]) npt)
  have m1 := off_same _ _ (kt _ _ (k3 _ _ (k2 _ _ o1)))
  have m2 := off_same _ _ (kt _ _ (k3 _ _ o2))
  have m3 := off_same _ _ (kt _ _ o3)
  have kHm : Keep b H (upd H3 pt (.tup [.ref p1, .ref p2, .ref p3])) := ((k1.trans k2).trans k3).trans kt
  generalize upd H3 pt (.tup [.ref p1, .ref p2, .ref p3]) = Hm at kt bm m1 m2 m3 kHm
  have hl1 := Lat.perm_len (lat_up hp1)
  have hl2 := Lat.perm_len (lat_up hp2)
  have hl3 := Lat.perm_len (lat_up hp3)
  have hF : Lat.Is n (Lat.mix n rs cs ts) := Lat.mix_is (lat_up hp1) (lat_up hp2) (lat_up hp3)
  generalize hFe : Lat.mix n rs cs ts = F at hF
  -- found
  refine ⟨_, rfl, (n : Int), rfl, by omega, by omega, fun D nD => lc_range (lo := 0) (n := n) (g := gName 5) (tt := tYes) (vs := [5]) (H1 := Hm) (D := D)
    (fun i Hc => BagAt b Hc ∧ Same Hm Hc ∧ ∃ as : List Addr, Hc D = some (.lst (as.map V.ref)) ∧ as.length = i ∧ as.Nodup ∧ ∀ k a, as[k]? = some a → a ≠ D ∧ Hm a = none ∧ Hc a = some (.lst ((List.range n).map fun j => V.int (F k j)))) ?_ (fun i Hc hi hp => ?_) (fun Hc hp => ?_)⟩
  · exact ⟨bm.same (same_new nD), same_new nD, [], upd_same, rfl, List.nodup_nil, fun k a z => by simp at z⟩
  · obtain ⟨bc, sc_, as, eD, la, na, ra⟩ := hp
    refine ⟨rfl, ?_⟩
    refine ⟨_, rfl, (n : Int), rfl, by omega, by omega, fun D2 nD2 => lc_range (lo := 0) (n := n) (g := gName 6) (tt := tYes) (te := teCell K) (vs := [6]) (H1 := Hc) (D := D2)
      (fun j Hd => Same Hc Hd ∧ Hd D2 = some (.lst ((List.range j).map fun q => V.int (F i q)))) ?_ (fun j Hd hj hp => ?_) (fun Hd hp => ?_)⟩
    · exact ⟨same_new nD2, upd_same⟩
    · obtain ⟨sd, eD2⟩ := hp
      have hx0 := Int.emod_nonneg (Lat.nth rs i + Lat.nth cs j) (show (n : Int) ≠ 0 by omega)
      have hx1 := Int.emod_lt_of_pos (Lat.nth rs i + Lat.nth cs j) (show (0 : Int) < n by omega)
      obtain ⟨x, hx⟩ : ∃ x : Nat, (Lat.nth rs i + Lat.nth cs j) % (n : Int) = (x : Int) := ⟨((Lat.nth rs i + Lat.nth cs j) % (n : Int)).toNat, by omega⟩
      have hFx : F i j = Lat.nth ts x := by
        rw [← hFe]
        unfold Lat.mix
        rw [hx, Int.toNat_natCast]
      refine ⟨rfl, ?_⟩
      refine ⟨_, rfl, _, rfl, _, rfl, p1, _, _, _, rfl, rfl, SqL.of (sd _ _ (sc_ _ _ m1)), at0 (nth_map (by omega)), _, rfl, _, rfl, p2, _, _, _, rfl, rfl, SqL.of (sd _ _ (sc_ _ _ m2)), at0 (nth_map (by omega)), _, _, rfl, rfl, ?_⟩
      refine .inl ⟨_, rfl, _, rfl, _, _, rfl, rfl, (by show (0 : Int) < n; omega), p3, _, _, .int (Lat.nth ts x), rfl, rfl, SqL.of (sd _ _ (sc_ _ _ m3)), ?_, ?_⟩
      · show atI (ts.map V.int) ((Lat.nth rs i + Lat.nth cs j) % (n : Int)) = _
        rw [hx]
        exact atI_nat (nth_map (by omega))
      · refine ⟨_, eD2, ?_, fun z o e => ?_, ?_⟩
        · rw [List.length_map, List.length_range]
          exact small1000 (by omega)
        · rw [upd_ne (ne_of_none e nD2)]
          exact sd _ _ e
        · rw [upd_same, List.range_succ, List.map_append, ← hFx]
          rfl
    · obtain ⟨sd, eD2⟩ := hp
      have hDD : D2 ≠ D := fun e => by
        rw [e, eD] at nD2
        cases nD2
      refine ⟨_, sd _ _ eD, ?_, ?_, fun z o e => ?_, as ++ [D2], ?_, by rw [List.length_append, la]; rfl, ?_, fun k a hk => ?_⟩
      · rw [List.length_map, la]
        exact small1000 (by omega)
      · obtain ⟨g, x, m, eb, r⟩ := bc
        have nb : b ≠ D := fun e => by
          obtain ⟨g', x', m', eb', _⟩ := bm
          rw [e, nD] at eb'
          cases eb'
        exact ⟨g, x, m, by rw [upd_ne nb]; exact sd _ _ eb, r⟩
      · rw [upd_ne (ne_of_none e nD)]
        exact sd _ _ (sc_ _ _ e)
      · rw [upd_same, List.map_append]
        rfl
      · rw [List.nodup_append]
        refine ⟨na, by simp, fun a ha c hc e => ?_⟩
        rw [List.mem_singleton] at hc
        obtain ⟨k, hk⟩ := List.getElem?_of_mem ha
        have z := (ra k a hk).2.2
        rw [e, hc, nD2] at z
        cases z
      · by_cases hk2 : k < as.length
        · rw [List.getElem?_append_left hk2] at hk
          obtain ⟨z1, z2, z3⟩ := ra k a hk
          exact ⟨z1, z2, by rw [upd_ne z1]; exact sd _ _ z3⟩
        · rw [List.getElem?_append_right (by omega)] at hk
          have hk3 : k - as.length = 0 := by
            by_cases z : k - as.length = 0
            · exact z
            · rw [List.getElem?_eq_none (by rw [List.length_singleton]; omega)] at hk
              cases hk
          rw [hk3] at hk
          have ea : D2 = a := Option.some.inj hk
          have ek : k = i := by omega
          subst ea ek
          exact ⟨hDD, sc_.free nD2, by rw [upd_ne hDD]; exact eD2⟩
  obtain ⟨bc, sc_, as, eD, la, na, ra⟩ := hp
  have hDb : D ≠ b := fun e => by
    obtain ⟨g, x, m, eb, _⟩ := bm
    rw [← e, nD] at eb
    cases eb
  have hab : ∀ k a, as[k]? = some a → a ≠ b := fun k a hk e => by
    obtain ⟨g, x, m, eb, _⟩ := bm
    have z := (ra k a hk).2.1
    rw [e, eb] at z
    cases z
  have nDH : off b H D = none := by
    cases z : off b H D with
    | none => rfl
    | some o =>
      have := (off_get (kHm _ _ z)).2
      rw [nD] at this
      cases this
  have naH : ∀ k a, as[k]? = some a → off b H a = none := fun k a hk => by
    cases z : off b H a with
    | none => rfl
    | some o =>
      have := (off_get (kHm _ _ z)).2
      rw [(ra k a hk).2.1] at this
      cases this
  have kc : Keep b H Hc := kHm.trans (Keep.of sc_)
  have tb0 : off b Hc D = some (.lst (as.map V.ref)) ∧ ∀ k a, as[k]? = some a → off b Hc a = some (.lst ((List.range n).map fun j => V.int (F k j))) := ⟨off_put hDb eD, fun k a hk => off_put (hab k a hk) (ra k a hk).2.2⟩
  have hDa : ∀ k a, as[k]? = some a → a ≠ D := fun k a hk => (ra k a hk).1
  clear ra sc_ eD
  -- the turns
  refine ⟨rfl, rfl, bc, fun r Hr kr br r0 r1 => ⟨r, rfl, by omega, by omega, for_range (n := r.toNat) (fun i σ Hx => (∃ y5 y6 y8 y9 y10 y11 y12, σ = [some (.ref b), some (.int (n : Int)), some (.ref p1), some (.ref p2), some (.ref p3), y5, y6, some (.ref D), y8, y9, y10, y11, y12]) ∧ BagAt b Hx ∧ Keep b H Hx ∧
    ∃ g, Lat.Is n g ∧ off b Hx D = some (.lst (as.map V.ref)) ∧ ∀ k a, as[k]? = some a → off b Hx a = some (.lst ((List.range n).map fun j => V.int (g k j))))
    ⟨⟨_, _, _, _, _, _, _, rfl⟩, br, kc.trans kr, F, hF, kr _ _ tb0.1, fun k a hk => kr _ _ (tb0.2 k a hk)⟩ (fun i σ Hx hi hp => ?_) (fun σ Hx hp => ?_)⟩⟩
  · obtain ⟨⟨y5, y6, y8, y9, y10, y11, y12, rfl⟩, bx, kx, g, hg, eD, ra⟩ := hp
    refine ⟨_, rfl, _, rfl, b, (n : Int), rfl, bx, by omega, by omega, fun d1 Ha ka ba x10 x11 => ?_⟩
    refine ⟨_, rfl, _, rfl, b, (n : Int), rfl, ba, by omega, by omega, fun d2 Hb kb bb x20 x21 => ⟨_, _, rfl, ?_⟩⟩
    refine ⟨_, rfl, _, rfl, b, (n : Int), rfl, bb, by omega, by omega, fun d3 He ke be x30 x31 => ?_⟩
    refine ⟨_, rfl, _, rfl, b, (n : Int), rfl, be, by omega, by omega, fun d4 Hg kg bg x40 x41 => ⟨_, _, rfl, ?_⟩⟩
    obtain ⟨u, rfl⟩ : ∃ u : Nat, d1 = (u : Int) := ⟨d1.toNat, by omega⟩
    obtain ⟨v, rfl⟩ : ∃ v : Nat, d2 = (v : Int) := ⟨d2.toNat, by omega⟩
    obtain ⟨l, rfl⟩ : ∃ l : Nat, d3 = (l : Int) := ⟨d3.toNat, by omega⟩
    obtain ⟨m, rfl⟩ : ∃ m : Nat, d4 = (m : Int) := ⟨d4.toNat, by omega⟩
    have kxg : Keep b Hx Hg := ((ka.trans kb).trans ke).trans kg
    have eD2 := kxg _ _ eD
    have ra2 := fun k a hk => kxg _ _ (ra k a hk)
    have k2 := kx.trans kxg
    clear ka kb ke kg kxg ba bb be bx kx ra eD
    have hun : u < n := by omega
    have hvn : v < n := by omega
    have hln : l < n := by omega
    have hmn : m < n := by omega
    obtain ⟨au, hau⟩ : ∃ a, as[u]? = some a := ⟨_, List.getElem?_eq_getElem (by omega)⟩
    obtain ⟨av, hav⟩ : ∃ a, as[v]? = some a := ⟨_, List.getElem?_eq_getElem (by omega)⟩
    have asu : (as.map V.ref)[u]? = some (.ref au) := by rw [List.getElem?_map, hau]; rfl
    have asv : (as.map V.ref)[v]? = some (.ref av) := by rw [List.getElem?_map, hav]; rfl
    have sD := off_same _ _ eD2
    have su := off_same _ _ (ra2 u au hau)
    have sv := off_same _ _ (ra2 v av hav)
    refine ⟨_, rfl, _, rfl, D, _, _, _, rfl, rfl, SqL.of sD, atI_nat asu, _, rfl, au, _, _, _, rfl, rfl, SqL.of su, atI_nat (row_at (g u) hln), ?_⟩
    refine ⟨_, rfl, _, rfl, D, _, _, _, rfl, rfl, SqL.of sD, atI_nat asu, _, rfl, au, _, _, _, rfl, rfl, SqL.of su, atI_nat (row_at (g u) hmn), ?_⟩
    refine ⟨(by show 2 ≤ sizeLine; decide), fun pp npp => ?_⟩
    have k3 := Keep.of (b := b) (same_new (o := .lst [.int (g u l), .int (g u m)]) npp)
    have b3 := bg.same (same_new (o := .lst [.int (g u l), .int (g u m)]) npp)
    have ep : (upd Hg pp (.lst [.int (g u l), .int (g u m)])) pp = some (.lst [.int (g u l), .int (g u m)]) := upd_same
    have eD3 := k3 _ _ eD2
    have ra3 := fun k a hk => k3 _ _ (ra2 k a hk)
    have k4 := k2.trans k3
    have opp := off_new (o := .lst [.int (g u l), .int (g u m)]) bg npp
    generalize upd Hg pp (.lst [.int (g u l), .int (g u m)]) = Hh at k3 b3 ep eD3 ra3 k4 opp
    have inv : ∀ Hz, BagAt b Hz → Keep b Hh Hz → (∃ z5 z6 z8 z9 z10 z11 z12, [some (V.ref b), some (.int (n : Int)), some (.ref p1), some (.ref p2), some (.ref p3), some (.int (u : Int)), some (.int (v : Int)), some (.ref D), some (.int (0 + (i : Int))), some (.int (l : Int)), some (.int (m : Int)), some (.ref pp), y12] = [some (V.ref b), some (.int (n : Int)), some (.ref p1), some (.ref p2), some (.ref p3), z5, z6, some (.ref D), z8, z9, z10, z11, z12]) ∧ BagAt b Hz ∧ Keep b H Hz ∧
        ∃ g, Lat.Is n g ∧ off b Hz D = some (.lst (as.map V.ref)) ∧ ∀ k a, as[k]? = some a → off b Hz a = some (.lst ((List.range n).map fun j => V.int (g k j))) := fun Hz bz kz =>
      ⟨⟨_, _, _, _, _, _, _, rfl⟩, bz, k4.trans kz, g, hg, kz _ _ eD3, fun k a hk => kz _ _ (ra3 k a hk)⟩
    refine ⟨_, rfl, _, rfl, rfl, _, rfl, ?_⟩
    refine ite2 (fun c1 => ?_) (fun _ => inv Hh b3 (Keep.refl _ _))
    refine ⟨_, rfl, _, rfl, rfl, _, rfl, ?_⟩
    refine ite2 (fun c2 => ?_) (fun _ => inv Hh b3 (Keep.refl _ _))
    have huv : u ≠ v := fun e => by
      rw [e] at c1
      simp at c1
    have hlm : l ≠ m := fun e => by
      rw [e] at c2
      simp at c2
    have tD := off_same _ _ eD3
    have tu := off_same _ _ (ra3 u au hau)
    have tv := off_same _ _ (ra3 v av hav)
    refine ⟨_, rfl, _, rfl, D, _, _, _, rfl, rfl, SqL.of tD, atI_nat asv, _, rfl, av, _, _, _, rfl, rfl, SqL.of tv, atI_nat (row_at (g v) hmn), ?_⟩
    refine ⟨_, rfl, _, rfl, D, _, _, _, rfl, rfl, SqL.of tD, atI_nat asv, _, rfl, av, _, _, _, rfl, rfl, SqL.of tv, atI_nat (row_at (g v) hln), ?_⟩
    refine ⟨(by show 2 ≤ sizeLine; decide), fun pq npq => ?_⟩
    have k5 := Keep.of (b := b) (same_new (o := .lst [.int (g v m), .int (g v l)]) npq)
    have b5 := b3.same (same_new (o := .lst [.int (g v m), .int (g v l)]) npq)
    have epq : (upd Hh pq (.lst [.int (g v m), .int (g v l)])) pq = some (.lst [.int (g v m), .int (g v l)]) := upd_same
    have ep5 : (upd Hh pq (.lst [.int (g v m), .int (g v l)])) pp = some (.lst [.int (g u l), .int (g u m)]) := same_new npq _ _ ep
    have eD5 := k5 _ _ eD3
    have ra5 := fun k a hk => k5 _ _ (ra3 k a hk)
    have op5 := k5 _ _ opp
    have kp5 : Keep b H (upd Hh pq (.lst [.int (g v m), .int (g v l)])) := k4.trans k5
    have kh5 : Keep b Hh (upd Hh pq (.lst [.int (g v m), .int (g v l)])) := k5
    generalize upd Hh pq (.lst [.int (g v m), .int (g v l)]) = Hi at k5 b5 epq ep5 eD5 ra5 op5 kp5 kh5
    refine ⟨_, rfl, .list ([g v m, g v l].map PyData.int), .list ([g u l, g u m].map PyData.int), .lst (SqL.of epq) (dp_ints [g v m, g v l]), .lst (SqL.of ep5) (dp_ints [g u l, g u m]), shaped_ints [g v m, g v l], shaped_ints [g u l, g u m], _, rfl, ?_⟩
    have ee : PyData.eqv (.list ([g v m, g v l].map PyData.int)) (.list ([g u l, g u m].map PyData.int)) = decide ([g v m, g v l] = [g u l, g u m]) := by
      rw [PyData.eqv]
      exact eqv_ints _ _
    rw [ee]
    refine ite2 (fun c3 => ?_) (fun _ => inv Hi b5 kh5)
    have c3' := of_decide_eq_true c3
    injection c3' with q1 q2
    injection q2 with q2 _
    have hsw := Lat.sw_is hg hun hvn hln hmn huv hlm q1 q2
    have vD := off_same _ _ eD5
    have vu := off_same _ _ (ra5 u au hau)
    have vv := off_same _ _ (ra5 v av hav)
    have nau : au ≠ D := hDa u au hau
    have nav : av ≠ D := hDa v av hav
    have nuv : av ≠ au := fun e => by
      rw [e] at hav
      obtain ⟨w1, w2⟩ := List.getElem?_eq_some_iff.mp hau
      obtain ⟨w3, w4⟩ := List.getElem?_eq_some_iff.mp hav
      exact huv ((List.getElem_inj na).mp (w2.trans w4.symm))
    have npa : pp ≠ au := fun e => by
      rw [e, vu] at ep5
      have w := congrArg List.length (HO.lst.inj (Option.some.inj ep5))
      rw [e] at npp
      rw [su] at npp
      cases npp
    have npv : pp ≠ av := fun e => by
      rw [e, sv] at npp
      cases npp
    have lenr : ∀ (h : Nat → Int), ((List.range n).map fun k => V.int (h k)).length = n := fun h => by rw [List.length_map, List.length_range]
    refine ⟨_, rfl, pp, _, 1, _, rfl, rfl, SqL.of ep5, atI_nat (j := 1) rfl, _, rfl, pp, _, 0, _, rfl, rfl, SqL.of ep5, atI_nat (j := 0) rfl, (by show 2 ≤ sizeLine; decide), fun t1 nt1 => ?_⟩
    have w1 := same_new (o := .tup [V.int (g u m), .int (g u l)]) nt1
    refine ⟨t1, _, rfl, SqT.of upd_same, rfl, _, _, rfl, _, rfl, _, rfl, D, _, _, _, rfl, rfl, SqL.of (w1 _ _ vD), atI_nat asu, _, rfl, au, _, _, l, rfl, rfl, w1 _ _ vu, (by rw [lenr]; exact ixN_nat hln), ?_⟩
    have xD : (upd (upd Hi t1 (.tup [V.int (g u m), .int (g u l)])) au (.lst (((List.range n).map fun k => V.int (g u k)).set l (.int (g u m))))) D = some (.lst (as.map V.ref)) := by
      rw [upd_ne (fun e => nau e.symm)]
      exact w1 _ _ vD
    refine ⟨_, _, rfl, _, rfl, _, rfl, D, _, _, _, rfl, rfl, SqL.of xD, atI_nat asu, _, rfl, au, _, _, m, rfl, rfl, upd_same, (by rw [List.length_set, lenr]; exact ixN_nat hmn), rfl, ?_⟩
    have oth1 : ∀ z o, z ≠ au → Hi z = some o → (upd (upd (upd Hi t1 (.tup [V.int (g u m), .int (g u l)])) au (.lst (((List.range n).map fun k => V.int (g u k)).set l (.int (g u m))))) au (.lst ((((List.range n).map fun k => V.int (g u k)).set l (.int (g u m))).set m (.int (g u l))))) z = some o := fun z o nz e => by
      rw [upd_ne nz, upd_ne nz]
      exact w1 _ _ e
    have yu : (upd (upd (upd Hi t1 (.tup [V.int (g u m), .int (g u l)])) au (.lst (((List.range n).map fun k => V.int (g u k)).set l (.int (g u m))))) au (.lst ((((List.range n).map fun k => V.int (g u k)).set l (.int (g u m))).set m (.int (g u l))))) au = some (.lst ((((List.range n).map fun k => V.int (g u k)).set l (.int (g u m))).set m (.int (g u l)))) := upd_same
    generalize upd (upd (upd Hi t1 (.tup [V.int (g u m), .int (g u l)])) au (.lst (((List.range n).map fun k => V.int (g u k)).set l (.int (g u m))))) au (.lst ((((List.range n).map fun k => V.int (g u k)).set l (.int (g u m))).set m (.int (g u l)))) = Hk at oth1 yu
    have kp := oth1 _ _ npa ep5
    have kD := oth1 _ _ (fun e => nau e.symm) vD
    have kv := oth1 _ _ nuv vv
    refine ⟨_, rfl, pp, _, 0, _, rfl, rfl, SqL.of kp, atI_nat (j := 0) rfl, _, rfl, pp, _, 1, _, rfl, rfl, SqL.of kp, atI_nat (j := 1) rfl, (by show 2 ≤ sizeLine; decide), fun t2 nt2 => ?_⟩
    have w2 := same_new (o := .tup [V.int (g u l), .int (g u m)]) nt2
    refine ⟨t2, _, rfl, SqT.of upd_same, rfl, _, _, rfl, _, rfl, _, rfl, D, _, _, _, rfl, rfl, SqL.of (w2 _ _ kD), atI_nat asv, _, rfl, av, _, _, l, rfl, rfl, w2 _ _ kv, (by rw [lenr]; exact ixN_nat hln), ?_⟩
    have xD2 : (upd (upd Hk t2 (.tup [V.int (g u l), .int (g u m)])) av (.lst (((List.range n).map fun k => V.int (g v k)).set l (.int (g u l))))) D = some (.lst (as.map V.ref)) := by
      rw [upd_ne (fun e => nav e.symm)]
      exact w2 _ _ kD
    refine ⟨_, _, rfl, _, rfl, _, rfl, D, _, _, _, rfl, rfl, SqL.of xD2, atI_nat asv, _, rfl, av, _, _, m, rfl, rfl, upd_same, (by rw [List.length_set, lenr]; exact ixN_nat hmn), rfl, ?_⟩
    have oth2 : ∀ z o, z ≠ av → Hk z = some o → (upd (upd (upd Hk t2 (.tup [V.int (g u l), .int (g u m)])) av (.lst (((List.range n).map fun k => V.int (g v k)).set l (.int (g u l))))) av (.lst ((((List.range n).map fun k => V.int (g v k)).set l (.int (g u l))).set m (.int (g u m))))) z = some o := fun z o nz e => by
      rw [upd_ne nz, upd_ne nz]
      exact w2 _ _ e
    have yv : (upd (upd (upd Hk t2 (.tup [V.int (g u l), .int (g u m)])) av (.lst (((List.range n).map fun k => V.int (g v k)).set l (.int (g u l))))) av (.lst ((((List.range n).map fun k => V.int (g v k)).set l (.int (g u l))).set m (.int (g u m))))) av = some (.lst ((((List.range n).map fun k => V.int (g v k)).set l (.int (g u l))).set m (.int (g u m)))) := upd_same
    generalize upd (upd (upd Hk t2 (.tup [V.int (g u l), .int (g u m)])) av (.lst (((List.range n).map fun k => V.int (g v k)).set l (.int (g u l))))) av (.lst ((((List.range n).map fun k => V.int (g v k)).set l (.int (g u l))).set m (.int (g u m)))) = Hz at oth2 yv
    have oth : ∀ z o, z ≠ au → z ≠ av → Hi z = some o → Hz z = some o := fun z o n1 n2 e => oth2 _ _ n2 (oth1 _ _ n1 e)
    rw [row_set, row_set] at yu yv
    refine ⟨⟨_, _, _, _, _, _, _, rfl⟩, ?_, fun z o e => ?_, Lat.sw g u v l m, hsw, off_put hDb (oth _ _ (fun e => nau e.symm) (fun e => nav e.symm) vD), fun k a hk => ?_⟩
    · obtain ⟨g', x', m', eb, rr⟩ := b5
      exact ⟨g', x', m', oth _ _ (fun e => hab u au hau e.symm) (fun e => hab v av hav e.symm) eb, rr⟩
    · have e1 := kp5 _ _ e
      exact off_put (off_get e).1 (oth _ _ (fun w => by rw [w, naH u au hau] at e; cases e) (fun w => by rw [w, naH v av hav] at e; cases e) (off_get e1).2)
    · have hkn : k < n := by
        have := (List.getElem?_eq_some_iff.mp hk).1
        omega
      refine off_put (hab k a hk) ?_
      by_cases hku : k = u
      · subst hku
        have ea : a = au := Option.some.inj (hk.symm.trans hau)
        subst ea
        rw [oth2 _ _ (fun e => nuv e.symm) yu]
        refine congrArg (fun x => some (HO.lst x)) (row_congr fun j hj => ?_)
        unfold Lat.sw
        by_cases jm : j = m
        · subst jm
          simp [q1]
        · by_cases jl : j = l
          · subst jl
            simp [jm, q2]
          · simp [jm, jl]
      · by_cases hkv : k = v
        · subst hkv
          have ea : a = av := Option.some.inj (hk.symm.trans hav)
          subst ea
          rw [yv]
          refine congrArg (fun x => some (HO.lst x)) (row_congr fun j hj => ?_)
          unfold Lat.sw
          by_cases jm : j = m
          · subst jm
            simp [hku]
          · by_cases jl : j = l
            · subst jl
              simp [jm, hku]
            · simp [jm, jl]
        · have ne1 : a ≠ au := fun e => by
            rw [e] at hk
            obtain ⟨w1, w2⟩ := List.getElem?_eq_some_iff.mp hau
            obtain ⟨w3, w4⟩ := List.getElem?_eq_some_iff.mp hk
            exact hku ((List.getElem_inj na).mp (w4.trans w2.symm))
          have ne2 : a ≠ av := fun e => by
            rw [e] at hk
            obtain ⟨w1, w2⟩ := List.getElem?_eq_some_iff.mp hav
            obtain ⟨w3, w4⟩ := List.getElem?_eq_some_iff.mp hk
            exact hkv ((List.getElem_inj na).mp (w4.trans w2.symm))
          rw [oth _ _ ne1 ne2 (off_same _ _ (ra5 k a hk))]
          refine congrArg (fun x => some (HO.lst x)) (row_congr fun j hj => ?_)
          unfold Lat.sw
          simp [hku, hkv]
  · obtain ⟨⟨y5, y6, y8, y9, y10, y11, y12, rfl⟩, bx, kx, g, hg, eD, ra⟩ := hp
    have eD' := off_same _ _ eD
    refine ⟨_, rfl, D, rfl, ⟨_, SqL.of eD'⟩, fun E nE => lc_list (K := K) (a := D) (xs := as.map V.ref) (g := gName 12) (tt := tYes) (vs := [12]) (H1 := Hx) (D := E)
      (fun i Hd => Same Hx Hd ∧ ∃ ta : List Addr, Hd E = some (.lst (ta.map V.ref)) ∧ ta.length = i ∧ ∀ k t, ta[k]? = some t → t ≠ E ∧ Hx t = none ∧ FzT Hd t ((List.range n).map fun j => V.int (g k j))) ?_ (fun i Hd _ hp => ?_) (fun i x Hd hx hp => ?_) (fun Hd hp => ?_)⟩
    · exact ⟨same_new nE, [], upd_same, rfl, fun k t z => by simp at z⟩
    · exact SqL.of (hp.1 _ _ eD')
    · obtain ⟨sd, ta, eE, lt, rt⟩ := hp
      rw [List.getElem?_map] at hx
      cases hxa : as[i]? with
      | none =>
        rw [hxa] at hx
        cases hx
      | some a =>
        rw [hxa] at hx
        have ex : V.ref a = x := Option.some.inj hx
        subst ex
        refine ⟨rfl, ?_⟩
        refine ⟨_, rfl, ⟨a, _, rfl, SqL.of (sd _ _ (off_same _ _ (ra i a hxa))), fun t ob nt hdn => ?_⟩⟩
        have hi : i < as.length := (List.getElem?_eq_some_iff.mp hxa).1
        have htE : t ≠ E := fun e => by
          rw [e, eE] at nt
          cases nt
        refine ⟨_, by rw [upd_ne (fun e => htE e.symm)]; exact eE, ?_, fun z o e => ?_, ta ++ [t], ?_, by rw [List.length_append, lt]; rfl, fun k u hk => ?_⟩
        · rw [List.length_map, lt]
          exact small1000 (by omega)
        · rw [upd_ne (ne_of_none e nE), upd_ne (ne_of_none (sd _ _ e) nt)]
          exact sd _ _ e
        · rw [upd_same, List.map_append]
          rfl
        · by_cases hk2 : k < ta.length
          · rw [List.getElem?_append_left hk2] at hk
            obtain ⟨z1, z2, o3, d3, z3⟩ := rt k u hk
            exact ⟨z1, z2, o3, d3, by rw [upd_ne z1, upd_ne (ne_of_none z3 nt)]; exact z3⟩
          · rw [List.getElem?_append_right (by omega)] at hk
            have hk3 : k - ta.length = 0 := by
              by_cases z : k - ta.length = 0
              · exact z
              · rw [List.getElem?_eq_none (by rw [List.length_singleton]; omega)] at hk
                cases hk
            rw [hk3] at hk
            have ea : t = u := Option.some.inj hk
            have ek : k = i := by omega
            subst ea ek
            exact ⟨htE, sd.free nt, ob, hdn, by rw [upd_ne htE, upd_same]⟩
    · obtain ⟨sd, ta, eE, lt, rt⟩ := hp
      rw [List.length_map, la] at lt
      refine .inl ⟨E, _, rfl, SqL.of eE, fun rr nrr => q (.ref rr) g _ (kx.trans (Keep.of (sd.trans (same_new nrr)))) ((bx.same sd).same (same_new nrr)) ?_ hg⟩
      have bfin := bx.same sd
      refine ⟨rr, ta, rfl, off_new bfin nrr, lt, fun k t hk => ?_⟩
      obtain ⟨z1, z2, o3, d3, z3⟩ := rt k t hk
      have htb : t ≠ b := fun e => by
        obtain ⟨g', x', m', eb', _⟩ := bx
        rw [e, eb'] at z2
        cases z2
      exact ⟨o3, d3, off_put htb (same_new nrr _ _ z3)⟩
end
end K42

/-! K42m: formulas, what they tell in a Latin square, and solving them for a name -/
namespace Fml
inductive Wd
  | wi | be | ah
deriving DecidableEq
inductive Fm
  | nm (i : Nat)
  | op (w : Wd) (a b : Fm)
def names : Fm → List Nat
  | .nm i => [i]
  | .op _ a b => names a ++ names b
def size : Fm → Nat
  | .nm _ => 1
  | .op _ a b => size a + size b + 1
def ht : Fm → Nat
  | .nm _ => 0
  | .op _ a b => 1 + max (ht a) (ht b)
def fst (w : Wd) (b t : Fm) : Fm := match w with
  | .wi => .op .ah b t
  | .be => .op .ah t b
  | .ah => .op .be t b
def snd (w : Wd) (a t : Fm) : Fm := match w with
  | .wi => .op .be a t
  | .be => .op .wi a t
  | .ah => .op .wi t a
def sol (x : Nat) : Fm → Fm → Fm
  | .nm _, t => t
  | .op w a b, t => if x ∈ names a then sol x a (fst w b t) else sol x b (snd w a t)
def subst (x : Nat) (s : Fm) : Fm → Fm
  | .nm i => if i = x then s else .nm i
  | .op w a b => .op w (subst x s a) (subst x s b)
theorem subst_not {x : Nat} {s : Fm} : ∀ {f : Fm}, x ∉ names f → subst x s f = f
  | .nm i, h => if_neg fun e => h (by rw [e]; exact List.mem_singleton.mpr rfl)
  | .op w a b, h => by
    have h1 : x ∉ names a := fun z => h (List.mem_append_left _ z)
    have h2 : x ∉ names b := fun z => h (List.mem_append_right _ z)
    rw [subst, subst_not h1, subst_not h2]
theorem subst_id {x : Nat} : ∀ f : Fm, subst x (.nm x) f = f
  | .nm i => by
    rw [subst]
    by_cases e : i = x
    · rw [if_pos e, e]
    · rw [if_neg e]
  | .op w a b => by rw [subst, subst_id a, subst_id b]
theorem size_pos : ∀ f : Fm, 1 ≤ size f
  | .nm _ => Nat.le_refl _
  | .op _ a b => by rw [size]; omega
theorem size_fst (w : Wd) (b t : Fm) : size (fst w b t) = size b + size t + 1 := by
  cases w <;> simp only [fst, size] <;> omega
theorem size_snd (w : Wd) (a t : Fm) : size (snd w a t) = size a + size t + 1 := by
  cases w <;> simp only [snd, size] <;> omega
theorem size_sol (x : Nat) : ∀ (f t : Fm), size (sol x f t) + 1 = size f + size t
  | .nm i, t => by rw [sol, size]; omega
  | .op w a b, t => by
    rw [sol, size]
    by_cases h : x ∈ names a
    · rw [if_pos h]
      have := size_sol x a (fst w b t)
      rw [size_fst] at this
      omega
    · rw [if_neg h]
      have := size_sol x b (snd w a t)
      rw [size_snd] at this
      omega
theorem names_fst (w : Wd) (b t : Fm) : (names (fst w b t)).Perm (names b ++ names t) := by
  cases w
  · exact List.Perm.refl _
  · exact List.perm_append_comm
  · exact List.perm_append_comm
theorem names_snd (w : Wd) (a t : Fm) : (names (snd w a t)).Perm (names a ++ names t) := by
  cases w
  · exact List.Perm.refl _
  · exact List.Perm.refl _
  · exact List.perm_append_comm
theorem names_sol (x : Nat) : ∀ (f t : Fm), x ∈ names f → (names (sol x f t)).Perm ((names f).erase x ++ names t)
  | .nm i, t, h => by
    have e : x = i := List.mem_singleton.mp h
    subst e
    rw [sol, names, List.erase_cons_head, List.nil_append]
  | .op w a b, t, h => by
    rw [sol, names]
    by_cases ha : x ∈ names a
    · rw [if_pos ha, List.erase_append_left _ ha, List.append_assoc]
      refine (names_sol x a _ ha).trans (List.Perm.append_left _ (names_fst w b t))
    · rw [if_neg ha, List.erase_append_right _ ha]
      have hb : x ∈ names b := (List.mem_append.mp h).resolve_left ha
      refine (names_sol x b _ hb).trans ((List.Perm.append_left _ (names_snd w a t)).trans ?_)
      rw [← List.append_assoc]
      exact List.Perm.append_right _ List.perm_append_comm
theorem back {x o : Nat} (s : Fm) : ∀ (f t : Fm), (names f).count x = 1 → o ∉ names f → o ∈ names t → sol o (sol x f t) s = sol o t (subst x s f)
  | .nm i, t, h, ho, ht => by
    have e : i = x := by
      by_cases e : i = x
      · exact e
      · rw [names, List.count_singleton, if_neg (by simpa using e)] at h
        cases h
    rw [sol, subst, if_pos e]
  | .op w a b, t, h, ho, ht => by
    rw [names, List.count_append] at h
    have hoa : o ∉ names a := fun z => ho (List.mem_append_left _ z)
    have hob : o ∉ names b := fun z => ho (List.mem_append_right _ z)
    rw [sol, subst]
    by_cases ha : x ∈ names a
    · have ca : 1 ≤ (names a).count x := List.one_le_count_iff.mpr ha
      have cb : (names b).count x = 0 := by omega
      rw [if_pos ha, back s a _ (by omega) hoa ((names_fst w b t).mem_iff.mpr (List.mem_append_right _ ht)), subst_not (List.count_eq_zero.mp cb)]
      cases w
      · rw [show fst .wi b t = .op .ah b t from rfl, sol, if_neg hob]
        rfl
      · rw [show fst .be b t = .op .ah t b from rfl, sol, if_pos ht]
        rfl
      · rw [show fst .ah b t = .op .be t b from rfl, sol, if_pos ht]
        rfl
    · have ca : (names a).count x = 0 := List.count_eq_zero.mpr ha
      rw [if_neg ha, back s b _ (by omega) hob ((names_snd w a t).mem_iff.mpr (List.mem_append_right _ ht)), subst_not ha]
      cases w
      · rw [show snd .wi a t = .op .be a t from rfl, sol, if_neg hoa]
        rfl
      · rw [show snd .be a t = .op .wi a t from rfl, sol, if_neg hoa]
        rfl
      · rw [show snd .ah a t = .op .wi t a from rfl, sol, if_pos ht]
        rfl
theorem back_whole {x o : Nat} {f : Fm} (h : (names f).count x = 1) (ho : o ∉ names f) : sol o (sol x f (.nm o)) (.nm x) = f := by
  rw [back (.nm x) f (.nm o) h ho (List.mem_singleton.mpr rfl), sol, subst_id]
/-! ### what stands in it -/
theorem sol_names {x o : Nat} {f : Fm} (h : (names f).count x = 1) : (names (sol x f (.nm o))).Perm ((names f).map fun i => if i = x then o else i) := by
  have hx : x ∈ names f := List.one_le_count_iff.mp (by omega)
  refine (names_sol x f (.nm o) hx).trans ?_
  have e : ∀ l : List Nat, l.count x = 1 → (l.erase x ++ [o]).Perm (l.map fun i => if i = x then o else i) := by
    intro l
    induction l with
    | nil => intro h; cases h
    | cons y l ih =>
      intro h
      rw [List.map_cons]
      by_cases e : y = x
      · subst e
        rw [if_pos rfl, List.erase_cons_head]
        rw [List.count_cons_self] at h
        have h0 : l.count y = 0 := by omega
        have em : (l.map fun i => if i = y then o else i) = l := by
          refine (List.map_congr_left fun i hi => ?_).trans (List.map_id _)
          exact if_neg fun (e : i = y) => List.count_eq_zero.mp h0 (e ▸ hi)
        rw [em]
        exact List.perm_append_comm
      · rw [if_neg e, List.erase_cons_tail (by simpa using e)]
        rw [List.count_cons_of_ne e] at h
        exact List.Perm.cons _ (ih h)
  exact e _ h
theorem sol_count {x o : Nat} {f : Fm} (h : (names f).count x = 1) (ho : o ∉ names f) : (names (sol x f (.nm o))).count o = 1 ∧ x ∉ names (sol x f (.nm o)) := by
  have hx : x ∈ names f := List.one_le_count_iff.mp (by omega)
  have p := names_sol x f (.nm o) hx
  constructor
  · rw [p.count_eq, List.count_append, List.count_eq_zero.mpr fun z => ho (List.mem_of_mem_erase z), names]
    simp
  · intro z
    rcases List.mem_append.mp (p.mem_iff.mp z) with z | z
    · have q : ((names f).erase x).count x = 0 := by rw [List.count_erase_self, h]
      exact List.count_eq_zero.mp q z
    · have e : x = o := List.mem_singleton.mp z
      exact ho (e ▸ hx)
/-! ### the tables' way -/
/-- the first place below n at which p holds, n if there is none -/
def place (p : Nat → Bool) : Nat → Nat
  | 0 => 0
  | n + 1 => if place p n < n then place p n else if p n = true then n else n + 1
theorem place_le (p : Nat → Bool) : ∀ n, place p n ≤ n
  | 0 => Nat.le_refl _
  | n + 1 => by
    rw [place]
    split
    · omega
    · split <;> omega
theorem place_spec {p : Nat → Bool} : ∀ {n k : Nat}, k < n → p k = true → (∀ m, m < k → p m = false) → place p n = k
  | n + 1, k, h, hp, hm => by
    rw [place]
    by_cases e : k < n
    · rw [place_spec e hp hm, if_pos e]
    · have ek : k = n := by omega
      subst ek
      have hn : ¬ place p k < k := fun z => by
        have : ∀ n, n ≤ k → place p n = n := by
          intro n
          induction n with
          | zero => intro _; rfl
          | succ n ih =>
            intro h
            rw [place, ih (by omega), if_neg (by omega), if_neg (by rw [hm n (by omega)]; decide)]
        rw [this k (Nat.le_refl _)] at z
        omega
      rw [if_neg hn, if_pos hp]
/-- a nodup list of numbers below n of length n has all -/
theorem nodup_le : ∀ {l l' : List Int}, l.Nodup → (∀ x ∈ l, x ∈ l') → l.length ≤ l'.length
  | [], _, _, _ => Nat.zero_le _
  | x :: l, l', h, hs => by
    have h1 := List.nodup_cons.mp h
    have hx := hs x List.mem_cons_self
    have ih := nodup_le (l := l) (l' := l'.erase x) h1.2 fun y hy => by
      have ne : y ≠ x := fun e => h1.1 (e ▸ hy)
      exact (List.mem_erase_of_ne ne).mpr (hs y (List.mem_cons_of_mem _ hy))
    have pos := List.length_pos_of_mem hx
    rw [List.length_erase_of_mem hx] at ih
    rw [List.length_cons]
    omega
theorem all_in {n : Nat} {h : Nat → Int} (lo : ∀ j, j < n → 0 ≤ h j ∧ h j < (n : Int)) (inj : ∀ j k, j < n → k < n → h j = h k → j = k) {v : Int} (v0 : 0 ≤ v) (v1 : v < n) : ∃ j, j < n ∧ h j = v := by
  by_cases q : ∃ j, j < n ∧ h j = v
  · exact q
  · exfalso
    have nd : (v :: (List.range n).map h).Nodup := by
      refine List.nodup_cons.mpr ⟨fun z => ?_, ?_⟩
      · obtain ⟨j, hj, e⟩ := List.mem_map.mp z
        exact q ⟨j, List.mem_range.mp hj, e⟩
      · refine List.pairwise_map.mpr ?_
        refine List.Pairwise.imp_of_mem ?_ List.nodup_range
        intro a b ha hb ne e
        exact ne (inj a b (List.mem_range.mp ha) (List.mem_range.mp hb) e)
    have := nodup_le (l' := Lat.upTo n) nd fun y hy => by
      rcases List.mem_cons.mp hy with e | hy
      · rw [e]; exact Lat.upTo_mem.mpr ⟨v0, v1⟩
      · obtain ⟨j, hj, e⟩ := List.mem_map.mp hy
        rw [← e]
        exact Lat.upTo_mem.mpr (lo j (List.mem_range.mp hj))
    rw [List.length_cons, List.length_map, List.length_range, Lat.upTo_len] at this
    omega
section
variable (n : Nat) (g : Nat → Nat → Int)
/-- with, behind, ahead -/
def wW (a b : Nat) : Nat := (g a b).toNat
def wB (a b : Nat) : Nat := place (fun j => decide (g a j = (b : Int))) n
def wA (a b : Nat) : Nat := place (fun i => decide (g i a = (b : Int))) n
def word (w : Wd) (a b : Nat) : Nat := match w with
  | .wi => wW g a b
  | .be => wB n g a b
  | .ah => wA n g a b
def tells (th : Nat → Nat) : Fm → Nat
  | .nm i => th i
  | .op w a b => word n g w (tells th a) (tells th b)
variable {n g} (L : Lat.Is n g)
include L
theorem wW_lt {a b : Nat} (ha : a < n) (hb : b < n) : wW g a b < n := by
  have := L.lo a b ha hb
  unfold wW
  omega
theorem wW_is {a b c : Nat} (ha : a < n) (hb : b < n) : wW g a b = c ↔ g a b = (c : Int) := by
  have := L.lo a b ha hb
  unfold wW
  omega
theorem wB_at {a b : Nat} (ha : a < n) (hb : b < n) : ∃ j, j < n ∧ g a j = (b : Int) ∧ (∀ m, m < j → g a m ≠ (b : Int)) ∧ wB n g a b = j := by
  obtain ⟨j, hj, e⟩ := all_in (h := g a) (fun j hj => L.lo a j ha hj) (fun j k hj hk => L.row a j k ha hj hk) (v := (b : Int)) (by omega) (by omega)
  have no : ∀ m, m < j → g a m ≠ (b : Int) := fun m hm z => by
    have := L.row a m j ha (by omega) hj (z.trans e.symm)
    omega
  exact ⟨j, hj, e, no, place_spec hj (decide_eq_true e) fun m hm => decide_eq_false (no m hm)⟩
theorem wA_at {a b : Nat} (ha : a < n) (hb : b < n) : ∃ i, i < n ∧ g i a = (b : Int) ∧ (∀ m, m < i → g m a ≠ (b : Int)) ∧ wA n g a b = i := by
  obtain ⟨i, hi, e⟩ := all_in (h := fun i => g i a) (fun i hi => L.lo i a hi ha) (fun i k hi hk => L.col i k a hi hk ha) (v := (b : Int)) (by omega) (by omega)
  have no : ∀ m, m < i → g m a ≠ (b : Int) := fun m hm z => by
    have := L.col m i a (by omega) hi ha (z.trans e.symm)
    omega
  exact ⟨i, hi, e, no, place_spec (p := fun i => decide (g i a = (b : Int))) hi (decide_eq_true e) fun m hm => decide_eq_false (no m hm)⟩
theorem wB_is {a b c : Nat} (ha : a < n) (hb : b < n) (hc : c < n) : wB n g a b = c ↔ g a c = (b : Int) := by
  obtain ⟨j, hj, e, _, ej⟩ := wB_at L ha hb
  rw [ej]
  constructor
  · rintro rfl; exact e
  · intro z; exact L.row a j c ha hj hc (e.trans z.symm)
theorem wA_is {a b c : Nat} (ha : a < n) (hb : b < n) (hc : c < n) : wA n g a b = c ↔ g c a = (b : Int) := by
  obtain ⟨i, hi, e, _, ei⟩ := wA_at L ha hb
  rw [ei]
  constructor
  · rintro rfl; exact e
  · intro z; exact L.col i c a hi hc ha (e.trans z.symm)
theorem word_lt {w : Wd} {a b : Nat} (ha : a < n) (hb : b < n) : word n g w a b < n := by
  cases w
  · exact wW_lt L ha hb
  · obtain ⟨j, hj, _, _, e⟩ := wB_at L ha hb
    show wB n g a b < n
    rw [e]; exact hj
  · obtain ⟨j, hj, _, _, e⟩ := wA_at L ha hb
    show wA n g a b < n
    rw [e]; exact hj
theorem tells_lt {th : Nat → Nat} : ∀ {f : Fm}, (∀ i ∈ names f, th i < n) → tells n g th f < n
  | .nm i, h => h i (List.mem_singleton.mpr rfl)
  | .op w a b, h => word_lt L (tells_lt fun i hi => h i (List.mem_append_left _ hi)) (tells_lt fun i hi => h i (List.mem_append_right _ hi))
theorem tells_fst {th : Nat → Nat} {w : Wd} {a b t : Fm} (ha : tells n g th a < n) (hb : tells n g th b < n) (ht : tells n g th t < n) : tells n g th (fst w b t) = tells n g th a ↔ tells n g th (.op w a b) = tells n g th t := by
  cases w
  · show wA n g _ _ = _ ↔ wW g _ _ = _
    rw [wA_is L hb ht ha, wW_is L ha hb]
  · show wA n g _ _ = _ ↔ wB n g _ _ = _
    rw [wA_is L ht hb ha, wB_is L ha hb ht]
  · show wB n g _ _ = _ ↔ wA n g _ _ = _
    rw [wB_is L ht hb ha, wA_is L ha hb ht]
theorem tells_snd {th : Nat → Nat} {w : Wd} {a b t : Fm} (ha : tells n g th a < n) (hb : tells n g th b < n) (ht : tells n g th t < n) : tells n g th (snd w a t) = tells n g th b ↔ tells n g th (.op w a b) = tells n g th t := by
  cases w
  · show wB n g _ _ = _ ↔ wW g _ _ = _
    rw [wB_is L ha ht hb, wW_is L ha hb]
  · show wW g _ _ = _ ↔ wB n g _ _ = _
    rw [wW_is L ha ht, wB_is L ha hb ht]
  · show wW g _ _ = _ ↔ wA n g _ _ = _
    rw [wW_is L ht ha, wA_is L ha hb ht]
theorem tells_sol {th : Nat → Nat} {x : Nat} (lt : ∀ i, th i < n) : ∀ (f t : Fm), x ∈ names f → (tells n g th (sol x f t) = th x ↔ tells n g th f = tells n g th t)
  | .nm i, t, h => by
    have e : x = i := List.mem_singleton.mp h
    subst e
    rw [sol, tells]
    exact eq_comm
  | .op w a b, t, h => by
    have la := tells_lt L (th := th) (f := a) fun i _ => lt i
    have lb := tells_lt L (th := th) (f := b) fun i _ => lt i
    have lc := tells_lt L (th := th) (f := t) fun i _ => lt i
    rw [sol]
    by_cases ha : x ∈ names a
    · rw [if_pos ha, tells_sol lt a _ ha, eq_comm, tells_fst L la lb lc]
    · have hb : x ∈ names b := (List.mem_append.mp h).resolve_left ha
      rw [if_neg ha, tells_sol lt b _ hb, eq_comm, tells_snd L la lb lc]
end
theorem tells_congr {n : Nat} {g : Nat → Nat → Int} {th th' : Nat → Nat} : ∀ {f : Fm}, (∀ i ∈ names f, th i = th' i) → tells n g th f = tells n g th' f
  | .nm i, h => h i (List.mem_singleton.mpr rfl)
  | .op w a b, h => by rw [tells, tells, tells_congr fun i hi => h i (List.mem_append_left _ hi), tells_congr fun i hi => h i (List.mem_append_right _ hi)]
end Fml

namespace K42
open PySem L2 VK Fml
/-! ### formulas as data -/
def wd : Wd → Str
  | .wi => "with"
  | .be => "behind"
  | .ah => "ahead"
def toD : Fm → PyData
  | .nm i => .int (i : Int)
  | .op w a b => .tuple [.str (wd w), toD a, toD b]
def nmI (f : Fm) : List Int := (names f).map fun i : Nat => (i : Int)
def isW : PyData → Bool
  | .int _ => true
  | _ => false
def isTn (m : Int) : PyData → Bool
  | .tuple ds => decide ((ds.length : Int) = m)
  | _ => false
def partsD : PyData → List PyData
  | .tuple [a, b, c] => .tuple [a, b, c] :: (partsD b ++ partsD c)
  | d => [d]
theorem isTn3 {d : PyData} (h : isTn 3 d = true) : ∃ a b c, d = .tuple [a, b, c] := by
  cases d with
  | tuple ds =>
    have e : (ds.length : Int) = 3 := of_decide_eq_true h
    match ds, e with
    | [a, b, c], _ => exact ⟨a, b, c, rfl⟩
    | [], e => simp at e
    | [_], e => simp at e
    | [_, _], e => simp at e
    | _ :: _ :: _ :: _ :: r, e => simp only [List.length_cons] at e; omega
  | _ => cases h
theorem not3p {d : PyData} (h : ¬ isTn 3 d = true) : partsD d = [d] := by
  rw [partsD]
  intro a b c e
  rw [e] at h
  exact h rfl
theorem parts_pos (d : PyData) : 1 ≤ (partsD d).length := by
  by_cases h : isTn 3 d = true
  · obtain ⟨a, b, c, rfl⟩ := isTn3 h
    rw [partsD, List.length_cons]
    omega
  · rw [not3p h]
    exact Nat.le_refl _
theorem flat_le : ∀ ds : List PyData, ds.length ≤ (ds.flatMap partsD).length
  | [] => Nat.le_refl _
  | d :: ds => by
    have h1 := parts_pos d
    have h2 := flat_le ds
    rw [List.flatMap_cons, List.length_append, List.length_cons]
    omega
theorem small4 {n : Nat} (h : n ≤ 10010) : n < sizeLine := Nat.lt_of_le_of_lt h (by decide)
theorem parts_size : ∀ f : Fm, (partsD (toD f)).length = size f
  | .nm i => by rw [toD, partsD, size]; rfl; intro a b c e; cases e
  | .op w a b => by rw [toD, partsD, size, List.length_cons, List.length_append, parts_size a, parts_size b]
theorem parts_names : ∀ f : Fm, (partsD (toD f)).filter isW = (names f).map fun i : Nat => PyData.int (i : Int)
  | .nm i => by
    rw [toD, partsD]
    · rfl
    · intro a b c e; cases e
  | .op w a b => by
    rw [toD, partsD, names, List.map_append, List.filter_cons_of_neg (fun z => Bool.noConfusion (show false = true from z)), List.filter_append, parts_names a, parts_names b]
theorem count_nmI (f : Fm) (x : Nat) : (nmI f).count (x : Int) = (names f).count x := by
  unfold nmI
  rw [List.count_eq_countP, List.countP_map, List.count_eq_countP]
  refine List.countP_congr fun i _ => ?_
  show ((i : Int) == (x : Int)) = true ↔ (i == x) = true
  rw [beq_iff_eq, beq_iff_eq]
  omega
theorem in_ints (x : Int) : ∀ l : List Int, inV (.int x) (l.map V.int) = decide (x ∈ l)
  | [] => rfl
  | y :: l => by
    show (eqV (.int y) (.int x) || inV (.int x) (l.map V.int)) = _
    rw [in_ints x l]
    have e : eqV (.int y) (.int x) = (y == x) := rfl
    rw [e, Bool.eq_iff_iff, Bool.or_eq_true, decide_eq_true_iff, decide_eq_true_iff, beq_iff_eq, List.mem_cons]
    exact ⟨fun z => z.imp Eq.symm id, fun z => z.imp Eq.symm id⟩
theorem mem_nmI (f : Fm) (x : Nat) : (x : Int) ∈ nmI f ↔ x ∈ names f := by
  unfold nmI
  rw [List.mem_map]
  constructor
  · rintro ⟨i, hi, e⟩
    have : i = x := by omega
    exact this ▸ hi
  · intro h
    exact ⟨x, h, rfl⟩
theorem in_names (f : Fm) (x : Nat) : inV (.int (x : Int)) ((nmI f).map V.int) = decide (x ∈ names f) := by
  rw [in_ints, Bool.eq_iff_iff, decide_eq_true_iff, decide_eq_true_iff]
  exact mem_nmI f x
theorem flat_ints (l : List Int) : (l.map V.int).all flatV = true := by
  rw [List.all_map]
  exact List.all_eq_true.mpr fun _ _ => rfl
theorem Da.fm {H : Hp} {v : V} {w : Wd} {a b : Fm} (h : Da H v (toD (.op w a b))) : ∃ p x y, v = .ref p ∧ H p = some (.tup [.str (wd w), x, y]) ∧ Da H x (toD a) ∧ Da H y (toD b) := by
  rw [toD] at h
  obtain ⟨p, xs, rfl, hp, hx⟩ := h.tup_inv
  cases hx with
  | cons h1 r =>
    cases r with
    | cons h2 r =>
      cases r with
      | cons h3 r =>
        cases r
        have e := h1.str_inv
        subst e
        exact ⟨p, _, _, rfl, hp, h2, h3⟩
/-! ### the program's defs -/
abbrev sis_whole : Stmt := top 5
abbrev sis_tuple : Stmt := top 6
abbrev sparts : Stmt := top 10
abbrev ssize : Stmt := top 8
abbrev snames_in : Stmt := top 11
abbrev sfirst_told : Stmt := top 12
abbrev ssecond_told : Stmt := top 13
abbrev ssolved : Stmt := top 9
theorem sc1 : FnScope ["value"] ["value"] (defScope sis_whole) := ⟨rfl, rfl, rfl, by decide +kernel, rfl, by decide +kernel, by decide +kernel⟩
theorem sc2 : FnScope ["value", "many"] ["value", "many"] (defScope sis_tuple) := ⟨rfl, rfl, rfl, by decide +kernel, rfl, by decide +kernel, by decide +kernel⟩
theorem sc4 : FnScope ["value", "found", "waiting", "part"] ["value"] (defScope sparts) := ⟨rfl, rfl, rfl, by decide +kernel, rfl, by decide +kernel, by decide +kernel⟩
theorem sc5 : FnScope ["formula"] ["formula"] (defScope ssize) := ⟨rfl, rfl, rfl, by decide +kernel, rfl, by decide +kernel, by decide +kernel⟩
theorem sc6 : FnScope ["formula", "part"] ["formula"] (defScope snames_in) := ⟨rfl, rfl, rfl, by decide +kernel, rfl, by decide +kernel, by decide +kernel⟩
theorem sc7 : FnScope ["word", "second", "told"] ["word", "second", "told"] (defScope sfirst_told) := ⟨rfl, rfl, rfl, by decide +kernel, rfl, by decide +kernel, by decide +kernel⟩
theorem sc8 : FnScope ["word", "first", "told"] ["word", "first", "told"] (defScope ssecond_told) := ⟨rfl, rfl, rfl, by decide +kernel, rfl, by decide +kernel, by decide +kernel⟩
theorem sc9 : FnScope ["formula", "name", "out", "names", "part", "told", "word", "first", "second"] ["formula", "name", "out"] (defScope ssolved) := ⟨rfl, rfl, rfl, by decide +kernel, rfl, by decide +kernel, by decide +kernel⟩
def spWhole : Sp := fun vs H Q _ => ∃ v d, vs = [v] ∧ Da H v d ∧ Q (.bl (isW d)) H
def spTuple : Sp := fun vs H Q _ => ∃ v d m, vs = [v, .int m] ∧ Da H v d ∧ Q (.bl (isTn m d)) H
def spParts : Sp := fun vs H Q _ => ∃ v d, vs = [v] ∧ Da H v d ∧ (partsD d).length ≤ 10000 ∧ ∀ p xs H', Same H H' → H' p = some (.lst xs) → DaAll H' xs (partsD d) → Q (.ref p) H'
def spSize : Sp := fun vs H Q _ => ∃ v f, vs = [v] ∧ Da H v (toD f) ∧ size f ≤ 10000 ∧ ∀ H', Same H H' → Q (.int (size f : Nat)) H'
def spNames : Sp := fun vs H Q _ => ∃ v f, vs = [v] ∧ Da H v (toD f) ∧ size f ≤ 10000 ∧ ∀ p H', Same H H' → H' p = some (.lst ((nmI f).map V.int)) → Q (.ref p) H'
def spFst : Sp := fun vs H Q _ => ∃ w b t x y, vs = [.str (wd w), x, y] ∧ Da H x (toD b) ∧ Da H y (toD t) ∧ ∀ r H', Same H H' → Da H' r (toD (fst w b t)) → Q r H'
def spSnd : Sp := fun vs H Q _ => ∃ w a t x y, vs = [.str (wd w), x, y] ∧ Da H x (toD a) ∧ Da H y (toD t) ∧ ∀ r H', Same H H' → Da H' r (toD (snd w a t)) → Q r H'
def nameXd (x : Nat) : HO := .xd [(("name" : Str), V.int (x : Int))]
def spSolved (C1 C2 : Addr) : Sp := fun vs H Q E => ∃ v f, ∃ x o : Nat, vs = [v, .int (x : Int), .int (o : Int)] ∧ Da H v (toD f) ∧ size f ≤ 1000 ∧
  ((names f).count x ≠ 1 → ∀ H1 d, Same H H1 → H1 d = none → E (.ref C1) (some d) (upd H1 d (nameXd x))) ∧
  ((names f).count x = 1 → o ∈ names f → ∀ H1 d, Same H H1 → H1 d = none → E (.ref C2) (some d) (upd H1 d (nameXd o))) ∧
  ((names f).count x = 1 → o ∉ names f → ∀ r H', Same H H' → Da H' r (toD (sol x f (.nm o))) → Q r H')
section
variable {P : Program} {w : World} {K : PySem.W.Frag} {mg : Str → Option Value} {base : Heap}
theorem ok_is_whole (D : DefAt K mg "is_whole" sis_whole ["value"]) (b_isinstance : mg "isinstance" = none) (b_int : mg "int" = none) (b_bool : mg "bool" = none) : CalG P w K mg base 1 "is_whole" spWhole := by
  have sc := sc1
  refine def_ok D sc (fun vs H Q E h => ?_) fun f cdv A outer s H vs Q E gA hr h => ?_
  · obtain ⟨v, d, rfl, _⟩ := h
    rfl
  obtain ⟨v, d, rfl, hd, q⟩ := h
  refine ⟨_, (pss_one (ps_ret (pe_and (pe_callB (call_isD) (by rfl) b_isinstance (by decide +kernel) (pa_cons (pv 0) (pa_cons (pe_bltn (v := .ty "int") (by rfl) b_int (by decide +kernel) rfl) pa_nil))) (pe_one (pe_not (pe_callB (call_isD) (by rfl) b_isinstance (by decide +kernel) (pa_cons (pv 0) (pa_cons (pe_bltn (v := .ty "bool") (by rfl) b_bool (by decide +kernel) rfl) pa_nil)))))))), ?_⟩
  refine ⟨_, rfl, v, d, _, _, rfl, hd, kit_int d, _, rfl, ?_⟩
  have q' : Q (.bl (isW d)) H := q
  refine ite2 (fun c => ?_) (fun c => ?_)
  · refine ⟨_, rfl, v, d, _, _, rfl, hd, kit_bool d, _, rfl, ?_⟩
    have e : (!isBo d) = isW d := by cases d <;> first | rfl | cases c
    rw [e]
    exact q
  · have e : false = isW d := by cases d <;> first | rfl | exact (c rfl).elim
    rw [e]
    exact q
theorem ok_is_tuple (D : DefAt K mg "is_tuple" sis_tuple ["value", "many"]) (b_isinstance : mg "isinstance" = none) (b_tuple : mg "tuple" = none) (b_len : mg "len" = none) : CalG P w K mg base 1 "is_tuple" spTuple := by
  have sc := sc2
  refine def_ok D sc (fun vs H Q E h => ?_) fun f cdv A outer s H vs Q E gA hr h => ?_
  · obtain ⟨v, d, m, rfl, _⟩ := h
    rfl
  obtain ⟨v, d, m, rfl, hd, q⟩ := h
  refine ⟨_, (pss_one (ps_ret (pe_and (pe_callB (call_isD) (by rfl) b_isinstance (by decide +kernel) (pa_cons (pv 0) (pa_cons (pe_bltn (v := .ty "tuple") (by rfl) b_tuple (by decide +kernel) rfl) pa_nil))) (pe_one (pe_cmpR op_eq (pe_callB (call_len_seq) (by rfl) b_len PySem.boot_len (pa_cons (pv 0) pa_nil)) (pv 1) (nomark _)))))), ?_⟩
  refine ⟨_, rfl, v, d, _, _, rfl, hd, kit_tuple d, _, rfl, ?_⟩
  refine ite2 (fun c => ?_) (fun c => ?_)
  · cases d <;> try (cases c)
    rename_i ds
    obtain ⟨a, xs, rfl, ha, hx⟩ := hd.tup_inv
    refine ⟨_, rfl, a, xs, rfl, .inr (SqT.of ha), _, rfl, rfl, ?_⟩
    have q' : Q (.bl (decide ((ds.length : Int) = m))) H := q
    have e : decide (V.int ((xs.length : Nat) : Int) = V.int m) = decide ((ds.length : Int) = m) := by
      rw [hx.length]
      by_cases z : (ds.length : Int) = m
      · rw [z, decide_eq_true rfl, decide_eq_true rfl]
      · rw [decide_eq_false z, decide_eq_false (fun y => z (V.int.inj y))]
    show Q (.bl (decide (V.int ((xs.length : Nat) : Int) = V.int m))) H
    rw [e]
    exact q'
  · have e : false = isTn m d := by cases d <;> first | rfl | exact (c rfl).elim
    show Q (.bl false) H
    rw [e]
    exact q
theorem ok_parts (D : DefAt K mg "parts" sparts ["value"]) (c_is_tuple : CalG P w K mg base 1 "is_tuple" spTuple) : CalG P w K mg base 2 "parts" spParts := by
  have sc := sc4
  refine def_ok D sc (fun vs H Q E h => ?_) fun f cdv A outer s H vs Q E gA hr h => ?_
  · obtain ⟨v, d, rfl, _⟩ := h
    rfl
  obtain ⟨v, d, rfl, hd, hz, q⟩ := h
  refine ⟨_, (pss_cons (ps_set (i := 1) sc.nd rfl (.inl rfl) (pe_lst pa_nil))
    (pss_cons (ps_set (i := 2) sc.nd rfl (.inl rfl) (pe_lst (pa_cons (pv 0) pa_nil)))
    (pss_cons (ps_while PassesOwn.never (pt_truth (pv 2) (fun _ => rfl)) (pss_cons (ps_set (i := 3) sc.nd rfl (.inl rfl) (pe_bm0 PySem.F.plainAttrs_list PySem.F.slot_list_pop PySem.F.type_list_pop mt_pop (pv 2)))
    (pss_cons (ps_expr (pe_bm PySem.F.plainAttrs_list PySem.F.slot_list_append PySem.F.type_list_append mt_append (pv 1) (pa_cons (pv 3) pa_nil)))
    (pss_one (ps_if (pt_val (pe_cg c_is_tuple gA hr (by omega) (by rfl) (pa_cons (pv 3) (pa_cons pe_int pa_nil)))) (pss_cons (ps_expr (pe_bm PySem.F.plainAttrs_list PySem.F.slot_list_append PySem.F.type_list_append mt_append (pv 2) (pa_cons (pe_ix ix_tup (pv 3) pe_int (fun _ _ => rfl)) pa_nil)))
    (pss_one (ps_expr (pe_bm PySem.F.plainAttrs_list PySem.F.slot_list_append PySem.F.type_list_append mt_append (pv 2) (pa_cons (pe_ix ix_tup (pv 3) pe_int (fun _ _ => rfl)) pa_nil))))) pss_nil)))))
    (pss_one (ps_ret (pv 1)))))), ?_⟩
  refine ⟨Nat.zero_le _, fun pf npf => ?_⟩
  have s1 : Same H (upd H pf (.lst [])) := same_new npf
  refine ⟨_, rfl, (by show 1 ≤ sizeLine; decide), fun pw npw => ?_⟩
  have s2 : Same (upd H pf (.lst [])) (upd (upd H pf (.lst [])) pw (.lst [v])) := same_new npw
  have nfw : pf ≠ pw := fun e => by
    rw [← e, upd_same] at npw
    cases npw
  have npw0 : H pw = none := by
    rw [upd_ne (fun e => nfw e.symm)] at npw
    exact npw
  refine ⟨fun m σ Hc => ∃ (y : Option V) (fs rs : List V) (dfs drs : List PyData), σ = [some v, some (.ref pf), some (.ref pw), y] ∧ Same H Hc ∧ Hc pf = some (.lst fs) ∧ Hc pw = some (.lst rs.reverse) ∧
      DaAll H fs dfs ∧ DaAll H rs drs ∧ partsD d = dfs ++ drs.flatMap partsD ∧ m = (drs.flatMap partsD).length, ?_, ?_⟩
  · refine ⟨_, none, [], [v], [], [d], rfl, s1.trans s2, ?_, upd_same, .nil, .cons hd .nil, ?_, rfl⟩
    · rw [upd_ne nfw, upd_same]
    · rw [List.flatMap_cons, List.flatMap_nil, List.append_nil, List.nil_append]
  · rintro m σ Hc ⟨y, fs, rs, dfs, drs, rfl, sm, ef, ew, hf, hw, hp, rfl⟩
    refine ⟨_, rfl, !rs.reverse.isEmpty, .inl ⟨_, SqL.of ew, rfl⟩, ?_⟩
    have hl : dfs.length + (drs.flatMap partsD).length ≤ 10000 := by
      rw [hp, List.length_append] at hz
      exact hz
    cases hw with
    | nil =>
      refine iteF ?_
      rw [List.flatMap_nil, List.append_nil] at hp
      refine ⟨_, rfl, ?_⟩
      rw [← hp] at hf
      exact q pf fs Hc sm ef (hf.same sm)
    | @cons x r p dr hx hr' =>
      have e1 : (!(x :: r).reverse.isEmpty) = true := by simp
      rw [e1]
      refine iteT ?_
      refine ⟨fun σ' H' => ∃ m', m' < (List.flatMap partsD (p :: dr)).length ∧ ∃ (y : Option V) (fs rs : List V) (dfs drs : List PyData), σ' = [some v, some (.ref pf), some (.ref pw), y] ∧ Same H H' ∧ H' pf = some (.lst fs) ∧ H' pw = some (.lst rs.reverse) ∧
        DaAll H fs dfs ∧ DaAll H rs drs ∧ partsD d = dfs ++ drs.flatMap partsD ∧ m' = (drs.flatMap partsD).length, fun _ _ h => h, ?_⟩
      have erev : (x :: r).reverse = r.reverse ++ [x] := List.reverse_cons
      rw [erev] at ew
      refine ⟨_, rfl, .inl ⟨rfl, _, SqL.of ew⟩, pw, _, x, rfl, rfl, ew, ?_, ?_⟩
      · rw [List.length_append, List.length_singleton, Nat.add_sub_cancel, List.getElem?_append_right (Nat.le_refl _), Nat.sub_self]
        rfl
      rw [List.dropLast_concat]
      have np : pf ≠ pw := nfw
      have eH1 : (upd Hc pw (.lst r.reverse)) pf = some (.lst fs) := by
        rw [upd_ne np]
        exact ef
      have sm1 : Same H (upd Hc pw (.lst r.reverse)) := fun b o e => by
        rw [upd_ne (ne_of_none e npw0)]
        exact sm _ _ e
      refine ⟨_, rfl, .inl ⟨rfl, _, SqL.of eH1⟩, x, rfl, pf, fs, x, rfl, rfl, eH1, ?_, ?_⟩
      · rw [hf.length]
        exact small4 (by omega)
      have sm2 : Same H (upd (upd Hc pw (.lst r.reverse)) pf (.lst (fs ++ [x]))) := fun b o e => by
        rw [upd_ne (ne_of_none e npf)]
        exact sm1 _ _ e
      have ew2 : (upd (upd Hc pw (.lst r.reverse)) pf (.lst (fs ++ [x]))) pw = some (.lst r.reverse) := by
        rw [upd_ne (fun e => np e.symm), upd_same]
      have ef2 : (upd (upd Hc pw (.lst r.reverse)) pf (.lst (fs ++ [x]))) pf = some (.lst (fs ++ [x])) := upd_same
      generalize upd (upd Hc pw (.lst r.reverse)) pf (.lst (fs ++ [x])) = H2 at sm2 ew2 ef2
      refine ⟨x, rfl, x, p, 3, rfl, hx.same sm2, _, rfl, ?_⟩
      rw [List.flatMap_cons] at hp hl
      refine ite2 (fun c => ?_) (fun c => ?_)
      · obtain ⟨a, b, c', rfl⟩ := isTn3 c
        obtain ⟨t, xs, rfl, ht, hxs⟩ := hx.tup_inv
        obtain ⟨x1, hx1, hd1⟩ := hxs.get (i := 1) rfl
        obtain ⟨x2, hx2, hd2⟩ := hxs.get (i := 2) rfl
        rw [partsD] at hp hl
        simp only [List.length_append, List.length_cons] at hl
        have hdr := flat_le dr
        have hb1 := parts_pos b
        have hb2 := parts_pos c'
        have lr : r.length = dr.length := hr'.length
        refine ⟨_, rfl, .inl ⟨rfl, _, SqL.of ew2⟩, _, rfl, t, xs, 2, x2, rfl, rfl, SqT.of (sm2 _ _ ht), atI_nat (j := 2) hx2, pw, _, x2, rfl, rfl, ew2, ?_, ?_⟩
        · rw [List.length_reverse, lr]
          exact small4 (by omega)
        have ew3 : (upd H2 pw (.lst (r.reverse ++ [x2]))) pw = some (.lst (r.reverse ++ [x2])) := upd_same
        have sm3 : Same H (upd H2 pw (.lst (r.reverse ++ [x2]))) := fun b o e => by
          rw [upd_ne (ne_of_none e npw0)]
          exact sm2 _ _ e
        refine ⟨_, rfl, .inl ⟨rfl, _, SqL.of ew3⟩, _, rfl, t, xs, 1, x1, rfl, rfl, SqT.of (sm3 _ _ ht), atI_nat (j := 1) hx1, pw, _, x1, rfl, rfl, ew3, ?_, ?_⟩
        · rw [List.length_append, List.length_reverse, lr, List.length_singleton]
          exact small4 (by omega)
        refine ⟨(List.flatMap partsD (b :: c' :: dr)).length, ?_, some (.ref t), fs ++ [.ref t], x1 :: x2 :: r, dfs ++ [.tuple [a, b, c']], b :: c' :: dr, rfl, ?_, ?_, ?_, hf.append (.cons hx .nil), .cons hd1 (.cons hd2 hr'), ?_, rfl⟩
        · rw [List.flatMap_cons, List.flatMap_cons, List.flatMap_cons, partsD]
          simp only [List.length_append, List.length_cons]
          omega
        · intro b o e
          rw [upd_ne (ne_of_none e npw0)]
          exact sm3 _ _ e
        · rw [upd_ne np, upd_ne np]
          exact ef2
        · rw [upd_same, List.reverse_cons, List.reverse_cons]
        · rw [hp, List.flatMap_cons, List.flatMap_cons]
          simp only [List.append_assoc, List.cons_append, List.nil_append]
      · have hp1 := not3p c
        rw [hp1] at hp
        refine ⟨(List.flatMap partsD dr).length, ?_, some x, fs ++ [x], r, dfs ++ [p], dr, rfl, sm2, ef2, ew2, hf.append (.cons hx .nil), hr', ?_, rfl⟩
        · rw [List.flatMap_cons, hp1, List.length_append, List.length_singleton]
          omega
        · rw [hp]
          simp only [List.append_assoc, List.cons_append, List.nil_append]
theorem ok_size (D : DefAt K mg "size" ssize ["formula"]) (c_parts : CalG P w K mg base 2 "parts" spParts) (b_len : mg "len" = none) : CalG P w K mg base 3 "size" spSize := by
  have sc := sc5
  refine def_ok D sc (fun vs H Q E h => ?_) fun f cdv A outer s H vs Q E gA hr h => ?_
  · obtain ⟨v, d, rfl, _⟩ := h
    rfl
  obtain ⟨v, fm, rfl, hd, hz, q⟩ := h
  have ez := parts_size fm
  refine ⟨_, (pss_one (ps_ret (pe_callB (call_len_seq) (by rfl) b_len PySem.boot_len (pa_cons (pe_cg c_parts gA hr (by omega) (by rfl) (pa_cons (pv 0) pa_nil)) pa_nil)))), ?_⟩
  refine ⟨_, rfl, v, _, rfl, hd, by omega, fun p xs H1 sm ep hx => ?_⟩
  refine ⟨p, xs, rfl, .inl (SqL.of ep), ?_⟩
  rw [hx.length, ez]
  exact q H1 sm
theorem ok_names_in (D : DefAt K mg "names_in" snames_in ["formula"]) (c_parts : CalG P w K mg base 2 "parts" spParts) (c_is_whole : CalG P w K mg base 1 "is_whole" spWhole) : CalG P w K mg base 3 "names_in" spNames := by
  have sc := sc6
  refine def_ok D sc (fun vs H Q E h => ?_) fun f cdv A outer s H vs Q E gA hr h => ?_
  · obtain ⟨v, d, rfl, _⟩ := h
    rfl
  obtain ⟨v, fm, rfl, hd, hz, q⟩ := h
  have ez := parts_size fm
  refine ⟨_, (pss_one (ps_ret (pe_lc (own := [("part", 1)]) (g := gName 1) (tt := tTest (tCall spWhole [] E0 (tCons (tVar 1) tNil))) (te := tVar 1) rfl sc.nd (pi_list (pe_cg c_parts gA hr (by omega) (by rfl) (pa_cons (pv 0) pa_nil))) (blkOk_by (N := ["formula", "part"]) (sc := defScope snames_in) (by decide +kernel)) (fun _ _ _ _ _ => pg_name (i := 1) sc.nd rfl (Or.inl rfl)) (fun _ _ _ _ _ => pts_one (pt_val (pe_cg c_is_whole gA hr (by omega) (by rfl) (pa_cons (pv 1) pa_nil)))) (fun _ _ _ _ _ => pv 1)))), ?_⟩
  refine ⟨_, rfl, v, _, rfl, hd, by omega, fun p xs H1 sm ep hx => ?_⟩
  have el := hx.length
  refine ⟨p, rfl, ⟨_, SqL.of ep⟩, fun D nD => lc_list (K := K) (a := p) (xs := xs) (g := gName 1) (tt := tTest (tCall spWhole [] E0 (tCons (tVar 1) tNil))) (te := tVar 1) (vs := [1]) (H1 := H1) (D := D)
      (fun i Hd => Same H1 Hd ∧ ∃ acc : List V, Hd D = some (.lst acc) ∧ acc.length ≤ i ∧ DaAll H1 acc (((partsD (toD fm)).take i).filter isW)) ?_ (fun i Hd _ hp => ?_) (fun i x Hd hi hp => ?_) (fun Hd hp => ?_)⟩
  · exact ⟨same_new nD, [], upd_same, Nat.le_refl _, .nil⟩
  · exact SqL.of (hp.1 _ _ ep)
  · obtain ⟨sd, acc, eD, la, da⟩ := hp
    obtain ⟨d, hdi, hdx⟩ := hx.getv hi
    have hlt : i < (partsD (toD fm)).length := (List.getElem?_eq_some_iff.mp hdi).1
    have et : (partsD (toD fm)).take (i + 1) = (partsD (toD fm)).take i ++ [d] := by
      rw [List.take_add_one, hdi]
      rfl
    refine ⟨rfl, x, rfl, x, d, rfl, hdx.same sd, _, rfl, ?_⟩
    rw [et, List.filter_append]
    refine ite2 (fun c => ?_) (fun c => ?_)
    · refine ⟨x, rfl, acc, eD, small4 (by omega), fun z o e => ?_, acc ++ [x], upd_same, ?_, ?_⟩
      · rw [upd_ne (ne_of_none e nD)]
        exact sd _ _ e
      · rw [List.length_append, List.length_singleton]
        omega
      · rw [List.filter_cons_of_pos c]
        exact da.append (.cons hdx .nil)
    · refine ⟨sd, acc, eD, Nat.le_succ_of_le la, ?_⟩
      rw [List.filter_cons_of_neg c, List.filter_nil, List.append_nil]
      exact da
  · obtain ⟨sd, acc, eD, la, da⟩ := hp
    rw [el, List.take_length, parts_names] at da
    refine q D Hd (sm.trans sd) ?_
    rw [eD]
    refine congrArg (fun x => some (HO.lst x)) ?_
    unfold nmI
    rw [List.map_map]
    generalize names fm = l at da
    clear eD la
    induction l generalizing acc with
    | nil => cases da; rfl
    | cons i l ih =>
      cases da with
      | cons h r =>
        rw [h.int_inv, List.map_cons, ih _ r]
        rfl
end
end K42

namespace K42
open PySem L2 VK Fml
theorem wd_is (w w' : Wd) : decide (V.str (wd w) = V.str (wd w')) = decide (w = w') := by
  cases w <;> cases w' <;> decide +kernel
section
variable {P : Program} {w : World} {K : PySem.W.Frag} {mg : Str → Option Value} {base : Heap}
theorem mk3 {H : Hp} {Q : VK} {wx : Wd} {a b : Fm} {x y : V} (hx : Da H x (toD a)) (hy : Da H y (toD b)) (q : ∀ r H', Same H H' → Da H' r (toD (.op wx a b)) → Q r H') (p : Addr) (np : H p = none) : Q (.ref p) (upd H p (.tup [.str (wd wx), x, y])) :=
  q _ _ (same_new np) (by rw [toD]; exact .tup upd_same (.cons (.str _) (.cons (hx.same (same_new np)) (.cons (hy.same (same_new np)) .nil))))
theorem ok_first_told (D : DefAt K mg "first_told" sfirst_told ["word", "second", "told"]) : CalG P w K mg base 1 "first_told" spFst := by
  have sc := sc7
  refine def_ok D sc (fun vs H Q E h => ?_) fun f cdv A outer s H vs Q E gA hr h => ?_
  · obtain ⟨w, b, t, x, y, rfl, _⟩ := h
    rfl
  obtain ⟨wx, b, t, x, y, rfl, hb, ht, q⟩ := h
  refine ⟨_, (pss_cons (ps_if (pt_cmpR op_eq (pv 0) pe_str (nomark _)) (pss_one (ps_ret (pe_tup (pa_cons pe_str (pa_cons (pv 1) (pa_cons (pv 2) pa_nil)))))) pss_nil)
    (pss_cons (ps_if (pt_cmpR op_eq (pv 0) pe_str (nomark _)) (pss_one (ps_ret (pe_tup (pa_cons pe_str (pa_cons (pv 2) (pa_cons (pv 1) pa_nil)))))) pss_nil)
    (pss_one (ps_ret (pe_tup (pa_cons pe_str (pa_cons (pv 2) (pa_cons (pv 1) pa_nil)))))))), ?_⟩
  refine ⟨_, rfl, rfl, _, rfl, ?_⟩
  have e1 : decide (V.str (wd wx) = V.str "with") = decide (wx = .wi) := wd_is wx .wi
  have e2 : decide (V.str (wd wx) = V.str "behind") = decide (wx = .be) := wd_is wx .be
  rw [e1]
  refine ite2 (fun c => ?_) (fun c => ?_)
  · have e := of_decide_eq_true c
    subst e
    exact ⟨_, rfl, _, rfl, (by show 3 ≤ sizeLine; decide), mk3 (wx := .ah) hb ht q⟩
  · refine ⟨_, rfl, rfl, _, rfl, ?_⟩
    rw [e2]
    refine ite2 (fun c2 => ?_) (fun c2 => ?_)
    · have e := of_decide_eq_true c2
      subst e
      exact ⟨_, rfl, _, rfl, (by show 3 ≤ sizeLine; decide), mk3 (wx := .ah) ht hb q⟩
    · have e : wx = .ah := by
        cases wx
        · exact absurd (decide_eq_true rfl) c
        · exact absurd (decide_eq_true rfl) c2
        · rfl
      subst e
      exact ⟨_, rfl, _, rfl, (by show 3 ≤ sizeLine; decide), mk3 (wx := .be) ht hb q⟩
theorem ok_second_told (D : DefAt K mg "second_told" ssecond_told ["word", "first", "told"]) : CalG P w K mg base 1 "second_told" spSnd := by
  have sc := sc8
  refine def_ok D sc (fun vs H Q E h => ?_) fun f cdv A outer s H vs Q E gA hr h => ?_
  · obtain ⟨w, b, t, x, y, rfl, _⟩ := h
    rfl
  obtain ⟨wx, b, t, x, y, rfl, hb, ht, q⟩ := h
  refine ⟨_, (pss_cons (ps_if (pt_cmpR op_eq (pv 0) pe_str (nomark _)) (pss_one (ps_ret (pe_tup (pa_cons pe_str (pa_cons (pv 1) (pa_cons (pv 2) pa_nil)))))) pss_nil)
    (pss_cons (ps_if (pt_cmpR op_eq (pv 0) pe_str (nomark _)) (pss_one (ps_ret (pe_tup (pa_cons pe_str (pa_cons (pv 1) (pa_cons (pv 2) pa_nil)))))) pss_nil)
    (pss_one (ps_ret (pe_tup (pa_cons pe_str (pa_cons (pv 2) (pa_cons (pv 1) pa_nil)))))))), ?_⟩
  refine ⟨_, rfl, rfl, _, rfl, ?_⟩
  have e1 : decide (V.str (wd wx) = V.str "with") = decide (wx = .wi) := wd_is wx .wi
  have e2 : decide (V.str (wd wx) = V.str "behind") = decide (wx = .be) := wd_is wx .be
  rw [e1]
  refine ite2 (fun c => ?_) (fun c => ?_)
  · have e := of_decide_eq_true c
    subst e
    exact ⟨_, rfl, _, rfl, (by show 3 ≤ sizeLine; decide), mk3 (wx := .be) hb ht q⟩
  · refine ⟨_, rfl, rfl, _, rfl, ?_⟩
    rw [e2]
    refine ite2 (fun c2 => ?_) (fun c2 => ?_)
    · have e := of_decide_eq_true c2
      subst e
      exact ⟨_, rfl, _, rfl, (by show 3 ≤ sizeLine; decide), mk3 (wx := .wi) hb ht q⟩
    · have e : wx = .ah := by
        cases wx
        · exact absurd (decide_eq_true rfl) c
        · exact absurd (decide_eq_true rfl) c2
        · rfl
      subst e
      exact ⟨_, rfl, _, rfl, (by show 3 ≤ sizeLine; decide), mk3 (wx := .wi) ht hb q⟩
theorem ok_solved (D : DefAt K mg "solved" ssolved ["formula", "name", "out"]) {C1 C2 f1 f2 : Addr} {qn1 qn2 : Str} (T1 : PySem.NmX.NmTxt K mg "NotOnce" qn1 C1 f1) (T2 : PySem.NmX.NmTxt K mg "Taken" qn2 C2 f2)
    (c_names_in : CalG P w K mg base 3 "names_in" spNames) (c_is_whole : CalG P w K mg base 1 "is_whole" spWhole) (c_first_told : CalG P w K mg base 1 "first_told" spFst) (c_second_told : CalG P w K mg base 1 "second_told" spSnd) :
    CalX P w K mg base 4 "solved" (spSolved C1 C2) := by
  have sc := sc9
  refine def_okX D sc (fun vs H Q E h => ?_) fun f cdv A outer s H vs Q E gA hr h => ?_
  · obtain ⟨v, f, x, o, rfl, _⟩ := h
    rfl
  obtain ⟨v, fm, x, o, rfl, hd, hz, q1, q2, q3⟩ := h
  refine ⟨_, (pss_cons (ps_set (i := 3) sc.nd rfl (.inl rfl) (pe_cg c_names_in gA hr (by omega) (by rfl) (pa_cons (pv 0) pa_nil)))
    (pss_cons (ps_if (pt_cmpR op_ne (pe_bm PySem.F.plainAttrs_list PySem.F.slot_list_count PySem.F.type_list_count mt_lcount (pv 3) (pa_cons (pv 1) pa_nil)) pe_int (nomark _)) (pss_one (ps_raiseNm (by decide) rfl T1 hr (takes_of rfl rfl rfl rfl) (pa_cons (pv 1) pa_nil))) pss_nil)
    (pss_cons (ps_if (pt_cmpR op_in_seq (pv 2) (pv 3) rfl) (pss_one (ps_raiseNm (by decide) rfl T2 hr (takes_of rfl rfl rfl rfl) (pa_cons (pv 2) pa_nil))) pss_nil)
    (pss_cons (ps_set (i := 4) sc.nd rfl (.inl rfl) (pv 0))
    (pss_cons (ps_set (i := 5) sc.nd rfl (.inl rfl) (pv 2))
    (pss_cons (ps_while (passes_of rfl) (pt_not (pt_val (pe_cg c_is_whole gA hr (by omega) (by rfl) (pa_cons (pv 4) pa_nil)))) (pss_cons (ps_asg (pv 4) (pg_tup rfl (pgs_cons (pg_name (i := 6) sc.nd rfl (.inl rfl)) (pgs_cons (pg_name (i := 7) sc.nd rfl (.inl rfl)) (pgs_cons (pg_name (i := 8) sc.nd rfl (.inl rfl)) pgs_nil)))))
    (pss_one (ps_if (pt_cmpR op_in_seq (pv 1) (pe_cg c_names_in gA hr (by omega) (by rfl) (pa_cons (pv 7) pa_nil)) rfl) (pss_cons (ps_set (i := 5) sc.nd rfl (.inl rfl) (pe_cg c_first_told gA hr (by omega) (by rfl) (pa_cons (pv 6) (pa_cons (pv 8) (pa_cons (pv 5) pa_nil)))))
    (pss_one (ps_set (i := 4) sc.nd rfl (.inl rfl) (pv 7)))) (pss_cons (ps_set (i := 5) sc.nd rfl (.inl rfl) (pe_cg c_second_told gA hr (by omega) (by rfl) (pa_cons (pv 6) (pa_cons (pv 7) (pa_cons (pv 5) pa_nil)))))
    (pss_one (ps_set (i := 4) sc.nd rfl (.inl rfl) (pv 8))))))))
    (pss_one (ps_ret (pv 5))))))))), ?_⟩
  refine ⟨_, rfl, v, fm, rfl, hd, by omega, fun pn H1 s1 en => ?_⟩
  -- count
  refine ⟨_, rfl, .inl ⟨rfl, _, SqL.of en⟩, _, rfl, pn, nmI fm, (x : Int), rfl, rfl, SqL.of en, rfl, _, rfl, ?_⟩
  rw [count_nmI]
  refine ite2 (fun c => ?_) (fun c => ?_)
  · have hc : (names fm).count x ≠ 1 := fun e => by
      rw [e] at c
      exact absurd c (by decide)
    exact ⟨_, rfl, _, rfl, fun d nd => q1 hc H1 d s1 nd⟩
  have hc : (names fm).count x = 1 := by
    by_cases e : (names fm).count x = 1
    · exact e
    · exfalso
      refine c ?_
      rw [decide_eq_false fun z => e (by have := V.int.inj z; omega)]
      rfl
  refine ⟨_, rfl, _, rfl, pn, _, rfl, .inl (SqL.of en), rfl, flat_ints _, _, rfl, ?_⟩
  refine ite2 (fun c2 => ?_) (fun c2 => ?_)
  · have hm : o ∈ names fm := of_decide_eq_true ((in_names fm o).symm.trans c2)
    exact ⟨_, rfl, _, rfl, fun d nd => q2 hc hm H1 d s1 nd⟩
  have hm : o ∉ names fm := fun z => c2 ((in_names fm o).trans (decide_eq_true z))
  have hx : x ∈ names fm := List.one_le_count_iff.mp (by omega)
  have q := q3 hc hm
  refine ⟨_, rfl, _, rfl, ?_⟩
  refine ⟨fun m σ Hc => ∃ (g t : Fm) (vp vt : V) (y6 y7 y8 : Option V), σ = [some v, some (.int (x : Int)), some (.int (o : Int)), some (.ref pn), some vp, some vt, y6, y7, y8] ∧ Same H Hc ∧ Da Hc vp (toD g) ∧ Da Hc vt (toD t) ∧ x ∈ names g ∧ sol x g t = sol x fm (.nm o) ∧ size g ≤ 1000 ∧ m = size g,
    ⟨_, fm, .nm o, _, _, none, none, none, rfl, s1, hd.same s1, by rw [toD]; exact .int _, hx, rfl, hz, rfl⟩, ?_⟩
  rintro m σ Hc ⟨g, t, vp, vt, y6, y7, y8, rfl, sm, hg, ht, hxg, es, hzg, rfl⟩
  refine ⟨_, rfl, vp, _, rfl, hg, _, rfl, ?_⟩
  cases g with
  | nm i =>
    refine iteF ?_
    rw [sol] at es
    rw [es] at ht
    exact ⟨_, rfl, q vt Hc sm ht⟩
  | op wx a b =>
    refine iteT ?_
    have hsz : size a + size b + 1 ≤ 1000 := hzg
    refine ⟨fun σ' H' => ∃ m', m' < size (.op wx a b) ∧ ∃ (g t : Fm) (vp vt : V) (y6 y7 y8 : Option V), σ' = [some v, some (.int (x : Int)), some (.int (o : Int)), some (.ref pn), some vp, some vt, y6, y7, y8] ∧ Same H H' ∧ Da H' vp (toD g) ∧ Da H' vt (toD t) ∧ x ∈ names g ∧ sol x g t = sol x fm (.nm o) ∧ size g ≤ 1000 ∧ m' = size g, fun _ _ z => z, ?_⟩
    obtain ⟨p, va, vb, rfl, hp, ha, hb⟩ := Da.fm hg
    refine ⟨_, rfl, p, _, rfl, SqT.of hp, rfl, _, _, rfl, _, _, rfl, _, _, rfl, rfl, ?_⟩
    refine ⟨_, rfl, _, rfl, va, a, rfl, ha, by omega, fun pa H2 s2 ea => ?_⟩
    refine ⟨pa, _, rfl, .inl (SqL.of ea), rfl, flat_ints _, _, rfl, ?_⟩
    have ha2 := ha.same s2
    have hb2 := hb.same s2
    have ht2 := ht.same s2
    have szo : size (.op wx a b) = size a + size b + 1 := rfl
    refine ite2 (fun c3 => ?_) (fun c3 => ?_)
    · have hxa : x ∈ names a := of_decide_eq_true ((in_names a x).symm.trans c3)
      rw [sol, if_pos hxa] at es
      refine ⟨_, rfl, _, rfl, _, rfl, wx, b, t, vb, vt, rfl, hb2, ht2, fun r H3 s3 hr3 => ?_⟩
      exact ⟨_, rfl, _, (by rw [szo]; omega), a, fst wx b t, va, r, _, _, _, rfl, (sm.trans s2).trans s3, ha2.same s3, hr3, hxa, es, by omega, rfl⟩
    · have hxa : x ∉ names a := fun z => c3 ((in_names a x).trans (decide_eq_true z))
      rw [sol, if_neg hxa] at es
      have hxb : x ∈ names b := (List.mem_append.mp (show x ∈ names a ++ names b from hxg)).resolve_left hxa
      refine ⟨_, rfl, _, rfl, _, rfl, wx, a, t, va, vt, rfl, ha2, ht2, fun r H3 s3 hr3 => ?_⟩
      exact ⟨_, rfl, _, (by rw [szo]; omega), b, snd wx a t, vb, r, _, _, _, rfl, (sm.trans s2).trans s3, hb2.same s3, hr3, hxb, es, by omega, rfl⟩
end
end K42

namespace K42
open PySem L2 VK Fml
abbrev s_law_tells : Stmt := top 20
def telN : List Str := ["_law_table_here", "_law_things", "_law_formula_here", "_law_one", "_law_other", "_law_row"]
theorem scTl : FnScope telN ["_law_table_here", "_law_things", "_law_formula_here"] (defScope s_law_tells) := ⟨rfl, rfl, rfl, by decide +kernel, rfl, by decide +kernel, by decide +kernel⟩
def thAt (ths : List Int) (i : Nat) : Nat := (Lat.nth ths i).toNat
def spTells (k : Nat) : Sp := fun vs H Q _ => ∃ vt th v n g f, ∃ ths : List Int, vs = [vt, .ref th, v] ∧ TabAt H vt n g ∧ Lat.Is n g ∧ n ≤ 60 ∧ H th = some (.lst (ths.map V.int)) ∧ Da H v (toD f) ∧ ht f < k ∧
  (∀ i ∈ names f, i < ths.length ∧ 0 ≤ Lat.nth ths i ∧ Lat.nth ths i < n) ∧ ∀ H', Same H H' → Q (.int (tells n g (thAt ths) f : Nat)) H'
theorem eqV_int (i j : Int) : eqV (.int i) (.int j) = (i == j) := rfl
theorem isI_fm (f : Fm) : isI (toD f) = match f with | .nm _ => true | .op _ _ _ => false := by cases f <;> rfl
section
variable {P : Program} {w : World} {K : PySem.W.Frag} {mg : Str → Option Value} {base : Heap}
theorem ok_tells (D : DefAt K mg "_law_tells" s_law_tells ["_law_table_here", "_law_things", "_law_formula_here"]) (b_isinstance : mg "isinstance" = none) (b_int : mg "int" = none) : ∀ k : Nat, CalG P w K mg base k "_law_tells" (spTells k)
  | 0 => none_left D fun vs H Q E ⟨_, _, _, _, _, _, _, _, _, _, _, _, _, z, _⟩ => by omega
  | k + 1 => by
    have c__law_tells := ok_tells D b_isinstance b_int k
    have sc := scTl
    refine def_ok D sc (fun vs H Q E h => ?_) fun f cdv A outer s H vs Q E gA hr h => ?_
    · obtain ⟨vt, th, v, n, g, f, ths, rfl, _⟩ := h
      rfl
    obtain ⟨vt, th, v, n, g, f, ths, rfl, hT, L, hn, hth, hv, hk, hnm, q⟩ := h
    refine ⟨_, (pss_cons (ps_if (pt_val (pe_callB (call_isD) (by rfl) b_isinstance (by decide +kernel) (pa_cons (pv 2) (pa_cons (pe_bltn (v := .ty "int") (by rfl) b_int (by decide +kernel) rfl) pa_nil)))) (pss_one (ps_ret (pe_ix ix_list (pv 1) (pv 2) (fun _ _ => rfl)))) pss_nil)
    (pss_cons (ps_asg (pe_tup (pa_cons (pe_cg c__law_tells gA hr (by omega) (by rfl) (pa_cons (pv 0) (pa_cons (pv 1) (pa_cons (pe_ix ix_tup (pv 2) pe_int (fun _ _ => rfl)) pa_nil)))) (pa_cons (pe_cg c__law_tells gA hr (by omega) (by rfl) (pa_cons (pv 0) (pa_cons (pv 1) (pa_cons (pe_ix ix_tup (pv 2) pe_int (fun _ _ => rfl)) pa_nil)))) pa_nil))) (pg_tup rfl (pgs_cons (pg_name (i := 3) sc.nd rfl (.inr rfl)) (pgs_cons (pg_name (i := 4) sc.nd rfl (.inl rfl)) pgs_nil))))
    (pss_cons (ps_if (pt_cmpR op_eq (pe_ix ix_tup (pv 2) pe_int (fun _ _ => rfl)) pe_str (nomark _)) (pss_one (ps_ret (pe_ix ix_tup (pe_ix ix_tup (pv 0) (pv 3) (fun _ _ => rfl)) (pv 4) (fun _ _ => rfl)))) pss_nil)
    (pss_cons (ps_if (pt_cmpR op_eq (pe_ix ix_tup (pv 2) pe_int (fun _ _ => rfl)) pe_str (nomark _)) (pss_one (ps_ret (pe_bmF PySem.F.plainAttrs_tuple PySem.F.slot_tuple_index PySem.F.type_tuple_index mt_indexT (pe_ix ix_tup (pv 0) (pv 3) (fun _ _ => rfl)) (pa_cons (pv 4) pa_nil)))) pss_nil)
    (pss_one (ps_ret (pe_bm PySem.F.plainAttrs_list PySem.F.slot_list_index PySem.F.type_list_index mt_index (pe_lc (own := [("_law_row", 5)]) (g := gName 5) (tt := tYes) (te := tOp (rIxT K) (tVar 5) (tVar 3)) rfl sc.nd (pi_tup (pv 0)) (blkOk_by (N := telN) (sc := defScope s_law_tells) (by decide +kernel)) (fun _ _ _ _ _ => pg_name (i := 5) sc.nd rfl (Or.inl rfl)) (fun _ _ _ _ _ => pts_nil) (fun _ _ _ _ _ => (pe_ix ix_tup (pv 5) (pv 3) (fun _ _ => rfl)))) (pa_cons (pv 4) pa_nil)))))))), ?_⟩
    refine ⟨_, rfl, v, toD f, _, _, rfl, hv, kit_int _, _, rfl, ?_⟩
    cases f with
    | nm i =>
      obtain ⟨hi, h0, h1⟩ := hnm i (List.mem_singleton.mpr rfl)
      have ev : v = .int (i : Int) := Da.int_inv (by rw [toD] at hv; exact hv)
      subst ev
      refine iteT ⟨_, rfl, _, rfl, th, _, (i : Int), .int (Lat.nth ths i), rfl, rfl, SqL.of hth, atI_nat (nth_map hi), ?_⟩
      have q' := q H (Same.refl H)
      rw [tells, thAt, show (((Lat.nth ths i).toNat : Nat) : Int) = Lat.nth ths i by omega] at q'
      exact q'
    | op wx a b =>
      obtain ⟨p, va, vb, rfl, hp, ha, hb⟩ := Da.fm hv
      have hka : ht a < k ∧ ht b < k := by
        rw [Fml.ht] at hk
        omega
      have na : ∀ i ∈ names a, i < ths.length ∧ 0 ≤ Lat.nth ths i ∧ Lat.nth ths i < n := fun i hi => hnm i (List.mem_append_left _ hi)
      have nb : ∀ i ∈ names b, i < ths.length ∧ 0 ≤ Lat.nth ths i ∧ Lat.nth ths i < n := fun i hi => hnm i (List.mem_append_right _ hi)
      have la : tells n g (thAt ths) a < n := tells_lt L fun i hi => by have := na i hi; unfold thAt; omega
      have lb : tells n g (thAt ths) b < n := tells_lt L fun i hi => by have := nb i hi; unfold thAt; omega
      refine iteF ?_
      obtain ⟨aT, as, rfl, eT, lT, rT⟩ := id hT
      refine ⟨_, rfl, _, rfl, _, rfl, p, _, 1, va, rfl, rfl, SqT.of hp, atI_nat (j := 1) rfl, _, th, va, n, g, a, ths, rfl, hT, L, hn, hth, ha, hka.1, na, fun H1 s1 => ?_⟩
      refine ⟨_, rfl, _, rfl, _, rfl, p, _, 2, vb, rfl, rfl, SqT.of (s1 _ _ hp), atI_nat (j := 2) rfl, _, th, vb, n, g, b, ths, rfl, hT.same s1, L, hn, s1 _ _ hth, hb.same s1, hka.2, nb, fun H2 s2 => ?_⟩
      refine ⟨(by show 2 ≤ sizeLine; decide), fun pt npt => ⟨pt, _, rfl, SqT.of upd_same, rfl, _, _, rfl, _, _, rfl, rfl, ?_⟩⟩
      have s3 : Same H (upd H2 pt (.tup [.int (tells n g (thAt ths) a : Nat), .int (tells n g (thAt ths) b : Nat)])) := (s1.trans s2).trans (same_new npt)
      generalize upd H2 pt (.tup [.int (tells n g (thAt ths) a : Nat), .int (tells n g (thAt ths) b : Nat)]) = H3 at s3
      have hp3 := s3 _ _ hp
      have eT3 := s3 _ _ eT
      have q' : ∀ H', Same H H' → Q (.int (word n g wx (tells n g (thAt ths) a) (tells n g (thAt ths) b) : Nat)) H' := q
      clear q
      obtain ⟨ra, hra⟩ : ∃ t, as[tells n g (thAt ths) a]? = some t := ⟨_, List.getElem?_eq_getElem (by omega)⟩
      have asa : (as.map V.ref)[tells n g (thAt ths) a]? = some (.ref ra) := by rw [List.getElem?_map, hra]; rfl
      have rowa := (rT _ ra hra).same s3
      have e1 : decide (V.str (wd wx) = V.str "with") = decide (wx = .wi) := wd_is wx .wi
      have e2 : decide (V.str (wd wx) = V.str "behind") = decide (wx = .be) := wd_is wx .be
      refine ⟨_, rfl, p, _, 0, .str (wd wx), rfl, rfl, SqT.of hp3, atI_nat (j := 0) rfl, rfl, _, rfl, ?_⟩
      rw [e1]
      generalize tells n g (thAt ths) a = ia at la asa hra rowa q'
      generalize tells n g (thAt ths) b = ib at lb q'
      refine ite2 (fun c => ?_) (fun c => ?_)
      · have e := of_decide_eq_true c
        subst e
        refine ⟨_, rfl, _, rfl, aT, _, _, .ref ra, rfl, rfl, SqT.of eT3, atI_nat asa, _, rfl, ra, _, _, .int (g ia ib), rfl, rfl, rowa.sq, atI_nat (row_at (g ia) lb), ?_⟩
        have h0 := (L.lo ia ib la lb).1
        have q4 : Q (.int ((g ia ib).toNat : Nat)) H3 := q' H3 s3
        rw [show (((g ia ib).toNat : Nat) : Int) = g ia ib by omega] at q4
        exact q4
      · refine ⟨_, rfl, p, _, 0, .str (wd wx), rfl, rfl, SqT.of hp3, atI_nat (j := 0) rfl, rfl, _, rfl, ?_⟩
        rw [e2]
        refine ite2 (fun c2 => ?_) (fun c2 => ?_)
        · have e := of_decide_eq_true c2
          subst e
          obtain ⟨j, hj, ej, no, ew⟩ := wB_at L la lb
          have q4 : Q (.int (wB n g ia ib : Nat)) H3 := q' H3 s3
          rw [ew] at q4
          refine ⟨_, rfl, _, rfl, aT, _, _, .ref ra, rfl, rfl, SqT.of eT3, atI_nat asa, ra, _, rfl, rowa, _, rfl, ra, _, _, j, .int (g ia j), rfl, rfl, rowa.sq, rfl, ?_, row_at (g ia) hj, ?_, ?_, q4⟩
          · exact List.all_eq_true.mpr fun x hx => by
              obtain ⟨k, _, rfl⟩ := List.mem_map.mp hx
              rfl
          · rw [eqV_int, beq_iff_eq]
            exact ej
          · intro m z' hm hz
            rw [row_at (g ia) (show m < n by omega)] at hz
            have ez := Option.some.inj hz
            subst ez
            rw [eqV_int]
            exact beq_eq_false_iff_ne.mpr (no m hm)
        · have e : wx = .ah := by
            cases wx
            · exact absurd (decide_eq_true rfl) c
            · exact absurd (decide_eq_true rfl) c2
            · rfl
          subst e
          obtain ⟨j, hj, ej, no, ew⟩ := wA_at L la lb
          have q4 : ∀ H', Same H H' → Q (.int (wA n g ia ib : Nat)) H' := q'
          rw [ew] at q4
          refine ⟨_, rfl, aT, rfl, ⟨_, SqT.of eT3⟩, fun D nD => lc_tup (K := K) (a := aT) (xs := as.map V.ref) (g := gName 5) (tt := tYes) (te := tOp (rIxT K) (tVar 5) (tVar 3)) (vs := [5]) (H1 := H3) (D := D)
            (fun i Hd => Same H3 Hd ∧ Hd D = some (.lst ((List.range i).map fun k => V.int (g k ia)))) ⟨same_new nD, upd_same⟩ (fun i Hd _ hp => SqT.of (hp.1 _ _ eT3)) (fun i x Hd hx hp => ?_) (fun Hd hp => ?_)⟩
          · obtain ⟨sd, eD⟩ := hp
            rw [List.getElem?_map] at hx
            cases hxa : as[i]? with
            | none =>
              rw [hxa] at hx
              cases hx
            | some t =>
              rw [hxa] at hx
              have ex : V.ref t = x := Option.some.inj hx
              subst ex
              have row := ((rT i t hxa).same s3).same sd
              refine ⟨rfl, _, rfl, _, rfl, t, _, _, .int (g i ia), rfl, rfl, row.sq, atI_nat (row_at (g i) la), _, eD, ?_, fun z o e => ?_, ?_⟩
              · rw [List.length_map, List.length_range]
                have := (List.getElem?_eq_some_iff.mp hxa).1
                exact small1000 (by omega)
              · rw [upd_ne (ne_of_none e nD)]
                exact sd _ _ e
              · rw [upd_same, List.range_succ, List.map_append]
                rfl
          · obtain ⟨sd, eD⟩ := hp
            rw [List.length_map, lT] at eD
            refine ⟨.inl ⟨rfl, _, SqL.of eD⟩, _, rfl, D, _, _, j, .int (g j ia), rfl, rfl, SqL.of eD, rfl, ?_, row_at (fun k => g k ia) hj, ?_, ?_, q4 Hd (s3.trans sd)⟩
            · exact List.all_eq_true.mpr fun x hx => by
                obtain ⟨k, _, rfl⟩ := List.mem_map.mp hx
                rfl
            · rw [eqV_int, beq_iff_eq]
              exact ej
            · intro m z' hm hz
              rw [row_at (fun k => g k ia) (show m < n by omega)] at hz
              have ez := Option.some.inj hz
              subst ez
              rw [eqV_int]
              exact beq_eq_false_iff_ne.mpr (no m hm)
end
end K42

namespace K42
open PySem L2 VK Fml
theorem ht_size : ∀ f : Fm, ht f + 1 ≤ size f
  | .nm _ => Nat.le_refl _
  | .op _ a b => by
    have h1 := ht_size a
    have h2 := ht_size b
    rw [ht, size]
    omega
theorem fit_fm : ∀ f : Fm, (∀ i ∈ names f, i < 100) → Fit (ht f) (20 * size f) (toD f)
  | .nm i, h => by
    have := h i (List.mem_singleton.mpr rfl)
    rw [toD]
    exact (fit_int (i := (i : Int)) (by omega) (by omega)).mono (Nat.le_refl _) (by rw [size]; omega)
  | .op w a b, h => by
    have fa := fit_fm a fun i hi => h i (List.mem_append_left _ hi)
    have fb := fit_fm b fun i hi => h i (List.mem_append_right _ hi)
    have fw : Fit 0 8 (.str (wd w)) := by cases w <;> exact fit_of (by decide +kernel)
    rw [toD, ht, size]
    refine (Fit.tup3 (h := max (ht a) (ht b)) (fw.mono (Nat.zero_le _) (Nat.le_refl _)) (fa.mono (Nat.le_max_left _ _) (Nat.le_refl _)) (fb.mono (Nat.le_max_right _ _) (Nat.le_refl _))).mono (by omega) (by omega)
theorem word_mem {d : PyData} (h : d ∈ [PyData.str "with", .str "behind", .str "ahead"]) : ∃ w : Wd, d = .str (wd w) := by
  simp only [List.mem_cons, List.not_mem_nil, or_false] at h
  rcases h with rfl | rfl | rfl
  · exact ⟨.wi, rfl⟩
  · exact ⟨.be, rfl⟩
  · exact ⟨.ah, rfl⟩
abbrev s_law_formula : Stmt := top 21
abbrev s_law_names_in : Stmt := top 22
abbrev s_law_chain : Stmt := top 24
abbrev s_law_told : Stmt := top 23
theorem scFo : FnScope ["_law_deck_here", "_law_names", "_law_deep", "_law_word", "_law_one"] ["_law_deck_here", "_law_names", "_law_deep"] (defScope s_law_formula) := ⟨rfl, rfl, rfl, by decide +kernel, rfl, by decide +kernel, by decide +kernel⟩
theorem scNa : FnScope ["_law_formula_here"] ["_law_formula_here"] (defScope s_law_names_in) := ⟨rfl, rfl, rfl, by decide +kernel, rfl, by decide +kernel, by decide +kernel⟩
theorem scCh : FnScope ["_law_deck_here", "_law_names", "_law_found", "_law_turn", "_law_word", "_law_own"] ["_law_deck_here", "_law_names"] (defScope s_law_chain) := ⟨rfl, rfl, rfl, by decide +kernel, rfl, by decide +kernel, by decide +kernel⟩
theorem scTo : FnScope ["_law_formula_here", "_law_name", "_law_out", "error"] ["_law_formula_here", "_law_name", "_law_out"] (defScope s_law_told) := ⟨rfl, rfl, rfl, by decide +kernel, rfl, by decide +kernel, by decide +kernel⟩
/-- names below n -/
def Below (n : Int) (f : Fm) : Prop := ∀ i ∈ names f, (i : Int) < n
def spFormula (k : Nat) : Sp := fun vs H Q _ => ∃ b n, ∃ j : Nat, vs = [.ref b, .int n, .int (j : Int)] ∧ BagAt b H ∧ 1 ≤ n ∧ n ≤ 9 ∧ j < k ∧
  ∀ r f H', Keep b H H' → BagAt b H' → Da (off b H') r (toD f) → Below n f → size f + 1 ≤ 2 ^ (j + 1) → Q r H'
def spNamesL (k : Nat) : Sp := fun vs H Q _ => ∃ v f, vs = [v] ∧ Da H v (toD f) ∧ ht f < k ∧ size f ≤ 1000 ∧ ∀ p H', Same H H' → H p = none → H' p = some (.lst ((nmI f).map V.int)) → Q (.ref p) H'
def spChain : Sp := fun vs H Q _ => ∃ b n, vs = [.ref b, .int n] ∧ BagAt b H ∧ 1 ≤ n ∧ n ≤ 9 ∧ ∀ r f H', Keep b H H' → BagAt b H' → Da (off b H') r (toD f) → Below n f → size f ≤ 15 → Q r H'
def toldD (f : Fm) (x o : Nat) : PyData := if (names f).count x ≠ 1 then .list [.str "once", .int (x : Int), .bool true] else if o ∈ names f then .list [.str "taken", .int (o : Int), .bool true] else .list [.str "ok", toD (sol x f (.nm o))]
def spTold : Sp := fun vs H Q _ => ∃ v f, ∃ x o : Nat, vs = [v, .int (x : Int), .int (o : Int)] ∧ Da H v (toD f) ∧ size f ≤ 1000 ∧ ∀ r H', Same H H' → Da H' r (toldD f x o) → Q r H'
theorem size_names : ∀ f : Fm, (names f).length ≤ size f
  | .nm _ => Nat.le_refl _
  | .op _ a b => by
    have h1 := size_names a
    have h2 := size_names b
    rw [names, List.length_append, size]
    omega
section
variable {P : Program} {w : World} {K : PySem.W.Frag} {mg : Str → Option Value} {base : Heap}
theorem ok_formula (D : DefAt K mg "_law_formula" s_law_formula ["_law_deck_here", "_law_names", "_law_deep"]) (c__law_pick : CalG P w K mg base 2 "_law_pick" spPick) (c__law_take : CalG P w K mg base 1 "_law_take" spDraw) : ∀ k : Nat, CalG P w K mg base (k + 2) "_law_formula" (spFormula k)
  | 0 => by
    obtain ⟨f, fd, F, b, m⟩ := D.ex
    exact ⟨f, fd, _, ⟨fun vs H Q E z => by obtain ⟨_, _, _, _, _, _, _, z, _⟩ := z; omega, fun _ _ _ _ _ z => by obtain ⟨_, _, _, _, _, _, _, z, _⟩ := z; omega⟩, m, F.kp, b⟩
  | k + 1 => by
    have c__law_formula := ok_formula D c__law_pick c__law_take k
    have sc := scFo
    refine def_ok D sc (fun vs H Q E h => ?_) fun f cdv A outer s H vs Q E gA hr h => ?_
    · obtain ⟨b, n, j, rfl, _⟩ := h
      rfl
    obtain ⟨b, n, j, rfl, hb, hn1, hn9, hj, q⟩ := h
    refine ⟨_, (pss_cons (ps_if (PW.pt (pw_or (pt_cmpR op_eq (pv 2) pe_int (nomark _)) (pw_or1 (pt_cmpR op_eq (pe_cg c__law_take gA hr (by omega) (by rfl) (pa_cons (pv 0) (pa_cons pe_int pa_nil))) pe_int (nomark _))))) (pss_one (ps_ret (pe_cg c__law_take gA hr (by omega) (by rfl) (pa_cons (pv 0) (pa_cons (pv 1) pa_nil))))) pss_nil)
    (pss_cons (ps_set (i := 3) sc.nd rfl (.inl rfl) (pe_cg c__law_pick gA hr (by omega) (by rfl) (pa_cons (pv 0) (pa_cons (pe_lit (ρ := []) (.lst (.cons .str (.cons .str (.cons .str .nil))) (Nat.le_of_ble_eq_true rfl))) pa_nil))))
    (pss_cons (ps_set (i := 4) sc.nd rfl (.inl rfl) (pe_cg c__law_formula gA hr (by omega) (by rfl) (pa_cons (pv 0) (pa_cons (pv 1) (pa_cons (pe_op op_sub (pv 2) pe_int) pa_nil)))))
    (pss_one (ps_ret (pe_tup (pa_cons (pv 3) (pa_cons (pv 4) (pa_cons (pe_cg c__law_formula gA hr (by omega) (by rfl) (pa_cons (pv 0) (pa_cons (pv 1) (pa_cons (pe_op op_sub (pv 2) pe_int) pa_nil)))) pa_nil))))))))), ?_⟩
    have p2 : 1 ≤ 2 ^ j := Nat.one_le_two_pow
    have p3 : 2 ^ (j + 1) = 2 * 2 ^ j := by rw [Nat.pow_succ, Nat.mul_comm]
    have leaf : ∀ H1, Keep b H H1 → BagAt b H1 → ∀ d H', Keep b H1 H' → BagAt b H' → 0 ≤ d → d < n → Q (.int d) H' := fun H1 k1 b1 d H' k' b' h0 h1 => by
      obtain ⟨i, rfl⟩ : ∃ i : Nat, d = (i : Int) := ⟨d.toNat, by omega⟩
      refine q _ (.nm i) H' (k1.trans k') b' (by rw [toD]; exact .int _) (fun m hm => ?_) (by rw [size]; omega)
      have e : m = i := List.mem_singleton.mp hm
      rw [e]
      exact h1
    refine ⟨_, rfl, rfl, _, rfl, ?_⟩
    refine ite2 (fun c => ?_) (fun c => ?_)
    · exact iteT ⟨_, rfl, _, rfl, b, n, rfl, hb, by omega, by omega, leaf H (Keep.refl b H) hb⟩
    · have hj0 : j ≠ 0 := fun z => c (by rw [z]; rfl)
      refine ⟨_, rfl, b, 4, rfl, hb, by decide, by decide, fun d1 H1 k1 b1 _ _ => ⟨rfl, _, rfl, ?_⟩⟩
      refine ite2 (fun c2 => ?_) (fun c2 => ?_)
      · exact ⟨_, rfl, _, rfl, b, n, rfl, b1, by omega, by omega, leaf H1 k1 b1⟩
      · refine ⟨_, rfl, off b H1, off_same, (fun _ z => nomatch z), fun v2 H2 s2 d2 => ?_⟩
        have b2 := b1.same s2
        refine ⟨b, v2, _, rfl, b2, lit_off b1 s2 d2, (by simp), Nat.le_of_ble_eq_true rfl, fun r dw H3 k3 b3 hm hd => ?_⟩
        obtain ⟨wx, rfl⟩ := word_mem hm
        obtain rfl := hd.str_inv
        have ej : (j : Int) - 1 = ((j - 1 : Nat) : Int) := by omega
        refine ⟨_, rfl, _, rfl, _, rfl, _, _, rfl, rfl, b, n, j - 1, (by show [V.ref b, .int n, .int ((j : Int) - 1)] = _; rw [ej]), b3, hn1, hn9, by omega, fun r1 e1 H4 k4 b4 x4 w4 f4 => ?_⟩
        refine ⟨_, rfl, _, rfl, _, rfl, _, rfl, _, rfl, _, _, rfl, rfl, b, n, j - 1, (by show [V.ref b, .int n, .int ((j : Int) - 1)] = _; rw [ej]), b4, hn1, hn9, by omega, fun r2 e2 H5 k5 b5 x5 w5 f5 => ?_⟩
        refine ⟨(by show 3 ≤ sizeLine; decide), fun p np => ?_⟩
        have kp : Keep b H5 (upd H5 p (.tup [.str (wd wx), r1, r2])) := Keep.of (same_new np)
        refine q (.ref p) (.op wx e1 e2) _ (((((k1.trans (Keep.of s2)).trans k3).trans k4).trans k5).trans kp) (b5.same (same_new np)) (by rw [toD]; exact .tup (off_new b5 np) (.cons (.str _) (.cons ((x4.same k5).same kp) (.cons (x5.same kp) .nil)))) (fun i hi => (List.mem_append.mp hi).elim (w4 i) (w5 i)) ?_
        rw [show j - 1 + 1 = j by omega] at f4 f5
        rw [size]
        omega
theorem ok_names_inL (D : DefAt K mg "_law_names_in" s_law_names_in ["_law_formula_here"]) (b_isinstance : mg "isinstance" = none) (b_int : mg "int" = none) : ∀ k : Nat, CalG P w K mg base k "_law_names_in" (spNamesL k)
  | 0 => none_left D fun vs H Q E ⟨_, _, _, _, z, _⟩ => by omega
  | k + 1 => by
    have c__law_names_in := ok_names_inL D b_isinstance b_int k
    have sc := scNa
    refine def_ok D sc (fun vs H Q E h => ?_) fun f cdv A outer s H vs Q E gA hr h => ?_
    · obtain ⟨v, f, rfl, _⟩ := h
      rfl
    obtain ⟨v, f, rfl, hv, hk, hz, q⟩ := h
    refine ⟨_, (pss_cons (ps_if (pt_val (pe_callB (call_isD) (by rfl) b_isinstance (by decide +kernel) (pa_cons (pv 0) (pa_cons (pe_bltn (v := .ty "int") (by rfl) b_int (by decide +kernel) rfl) pa_nil)))) (pss_one (ps_ret (pe_lst (pa_cons (pv 0) pa_nil)))) pss_nil)
    (pss_one (ps_ret (pe_op op_cat (pe_cg c__law_names_in gA hr (by omega) (by rfl) (pa_cons (pe_ix ix_tup (pv 0) pe_int (fun _ _ => rfl)) pa_nil)) (pe_cg c__law_names_in gA hr (by omega) (by rfl) (pa_cons (pe_ix ix_tup (pv 0) pe_int (fun _ _ => rfl)) pa_nil)))))), ?_⟩
    refine ⟨_, rfl, v, toD f, _, _, rfl, hv, kit_int _, _, rfl, ?_⟩
    cases f with
    | nm i =>
      have ev : v = .int (i : Int) := Da.int_inv (by rw [toD] at hv; exact hv)
      subst ev
      exact iteT ⟨_, rfl, (by show 1 ≤ sizeLine; decide), fun p np => q p _ (same_new np) np upd_same⟩
    | op wx a b =>
      obtain ⟨p, va, vb, rfl, hp, ha, hb⟩ := Da.fm hv
      have hka : ht a < k ∧ ht b < k := by
        rw [ht] at hk
        omega
      have hsz : size a + size b + 1 ≤ 1000 := hz
      refine iteF ⟨_, rfl, p, _, 1, va, rfl, rfl, SqT.of hp, atI_nat (j := 1) rfl, va, a, rfl, ha, hka.1, by omega, fun p1 H1 s1 _ e1 => ?_⟩
      refine ⟨_, rfl, p, _, 2, vb, rfl, rfl, SqT.of (s1 _ _ hp), atI_nat (j := 2) rfl, vb, b, rfl, hb.same s1, hka.2, by omega, fun p2 H2 s2 _ e2 => ?_⟩
      refine ⟨p1, p2, _, _, rfl, rfl, s2 _ _ e1, e2, ?_, fun pn np => q pn _ ((s1.trans s2).trans (same_new np)) (s1.free (s2.free np)) ?_⟩
      · have h1 := size_names a
        have h2 := size_names b
        unfold nmI
        rw [List.length_map, List.length_map, List.length_map, List.length_map]
        exact Nat.le_of_lt (small1000 (by omega))
      · rw [upd_same]
        unfold nmI
        rw [names, List.map_append, List.map_append]
set_option maxHeartbeats 1000000 in
theorem ok_told (D : DefAt K mg "_law_told" s_law_told ["_law_formula_here", "_law_name", "_law_out"]) {C1 C2 TE f1 f2 : Addr} {qn1 qn2 : Str} (T1 : PySem.NmX.NmTxt K mg "NotOnce" qn1 C1 f1) (T2 : PySem.NmX.NmTxt K mg "Taken" qn2 C2 f2) (E1 : ExcD K C1) (E2 : ExcD K C2)
    (c_solved : CalX P w K mg base 4 "solved" (spSolved C1 C2)) (b_isinstance : mg "isinstance" = none) (b_ValueError : mg "ValueError" = none) (g_TE : mg "TableError" = some (.ref TE))
    (k11 : PySem.W.kitOne K (.ref C1) (.ref TE) = some true) (k12 : PySem.W.kitOne K (.ref C1) (.type "ValueError") = some true) (k21 : PySem.W.kitOne K (.ref C2) (.ref TE) = some true) (k22 : PySem.W.kitOne K (.ref C2) (.type "ValueError") = some true)
    (x21 : PySem.W.exmOne K (.ref C2) (.ref C1) = some false) : CalG P w K mg base 5 "_law_told" spTold := by
  have sc := scTo
  have r_TE : RelV (.ref TE) (.ref TE) := rfl
  refine def_ok D sc (fun vs H Q E h => ?_) fun f cdv A outer s H vs Q E gA hr h => ?_
  · obtain ⟨v, f, x, o, rfl, _⟩ := h
    rfl
  obtain ⟨v, fm, x, o, rfl, hd, hz, q⟩ := h
  refine ⟨_, (pss_one (ps_try_names (i := 3) (n := "error") rfl rfl sc.nd rfl rfl takes0 (fun W pn xe tk _ => pss_one (ps_ret (pe_lst (pa_cons pe_str (pa_cons (pe_cgS c_solved gA hr (by omega) (by rfl) tk (pa_cons (pv 0) (pa_cons (pv 1) (pa_cons (pv 2) pa_nil)))) pa_nil))))) (.cons ⟨rfl, by decide, .inl T1.gC⟩ (fun a oe cls d pn hz hf => pss_one (ps_ret (pe_lst (pa_cons pe_str (pa_cons (pe_byNm T1 hz hf (pv 3)) (pa_cons (pe_and (pe_callB (call_isX E1 hz hf) (by rfl) b_isinstance (by decide +kernel) (pa_cons (pv 3) (pa_cons (pe_glob rfl g_TE r_TE) pa_nil))) (pe_one (pe_callB (call_isX E1 hz hf) (by rfl) b_isinstance (by decide +kernel) (pa_cons (pv 3) (pa_cons (pe_bltn (v := .ty "ValueError") (by rfl) b_ValueError (by decide +kernel) rfl) pa_nil))))) pa_nil)))))) (.cons ⟨rfl, by decide, .inl T2.gC⟩ (fun a oe cls d pn hz hf => pss_one (ps_ret (pe_lst (pa_cons pe_str (pa_cons (pe_byNm T2 hz hf (pv 3)) (pa_cons (pe_and (pe_callB (call_isX E2 hz hf) (by rfl) b_isinstance (by decide +kernel) (pa_cons (pv 3) (pa_cons (pe_glob rfl g_TE r_TE) pa_nil))) (pe_one (pe_callB (call_isX E2 hz hf) (by rfl) b_isinstance (by decide +kernel) (pa_cons (pv 3) (pa_cons (pe_bltn (v := .ty "ValueError") (by rfl) b_ValueError (by decide +kernel) rfl) pa_nil))))) pa_nil)))))) .nil)))), ?_⟩
  unfold toldD at q
  refine ⟨_, rfl, _, rfl, _, rfl, v, fm, x, o, rfl, hd, hz, fun hc H1 d s1 nd => ?_, fun hc hm H1 d s1 nd => ?_, fun hc hm r H1 s1 hr1 => ?_⟩
  · rw [if_pos hc] at q
    refine ⟨true, T1.te, fun _ a0 na => ?_, fun z => nomatch z⟩
    refine ⟨_, rfl, rfl, rfl, d, _, rfl, upd_same, ?_⟩
    refine ⟨_, rfl, .ref TE, .ref TE, true, d, _, rfl, rfl, rfl, upd_same, fun u r => r, k11, _, rfl, ?_⟩
    refine iteT ⟨_, rfl, .ty "ValueError", .type "ValueError", true, d, _, rfl, rfl, rfl, upd_same, fun u r => r, k12, ?_⟩
    refine ⟨(by show 3 ≤ sizeLine; decide), fun p np => ?_⟩
    exact q _ _ (s1.trans ((same_new nd).trans (same_new np))) (.lst upd_same (.cons (.str _) (.cons (.int _) (.cons (.bl _) .nil))))
  · rw [if_neg (fun z => z hc), if_pos hm] at q
    refine ⟨false, x21, (fun z => nomatch z), fun _ => ⟨true, T2.te, fun _ a0 na => ?_, fun z => nomatch z⟩⟩
    refine ⟨_, rfl, rfl, rfl, d, _, rfl, upd_same, ?_⟩
    refine ⟨_, rfl, .ref TE, .ref TE, true, d, _, rfl, rfl, rfl, upd_same, fun u r => r, k21, _, rfl, ?_⟩
    refine iteT ⟨_, rfl, .ty "ValueError", .type "ValueError", true, d, _, rfl, rfl, rfl, upd_same, fun u r => r, k22, ?_⟩
    refine ⟨(by show 3 ≤ sizeLine; decide), fun p np => ?_⟩
    exact q _ _ (s1.trans ((same_new nd).trans (same_new np))) (.lst upd_same (.cons (.str _) (.cons (.int _) (.cons (.bl _) .nil))))
  · rw [if_neg (fun z => z hc), if_neg hm] at q
    refine ⟨(by show 2 ≤ sizeLine; decide), fun p np => ?_⟩
    exact q _ _ (s1.trans (same_new np)) (.lst upd_same (.cons (.str _) (.cons (hr1.same (same_new np)) .nil)))
theorem ok_chain (D : DefAt K mg "_law_chain" s_law_chain ["_law_deck_here", "_law_names"]) (c__law_pick : CalG P w K mg base 2 "_law_pick" spPick) (c__law_take : CalG P w K mg base 1 "_law_take" spDraw) (b_range : mg "range" = none) : CalG P w K mg base 3 "_law_chain" spChain := by
  have sc := scCh
  refine def_ok D sc (fun vs H Q E h => ?_) fun f cdv A outer s H vs Q E gA hr h => ?_
  · obtain ⟨b, n, rfl, _⟩ := h
    rfl
  obtain ⟨b, n, rfl, hb, hn1, hn9, q⟩ := h
  refine ⟨_, (pss_cons (ps_set (i := 2) sc.nd rfl (.inl rfl) (pe_cg c__law_take gA hr (by omega) (by rfl) (pa_cons (pv 0) (pa_cons (pv 1) pa_nil))))
    (pss_cons (ps_for PassesOwn.never rfl (pi_range1 rfl b_range (pa_cons (pe_op op_add pe_int (pe_cg c__law_take gA hr (by omega) (by rfl) (pa_cons (pv 0) (pa_cons pe_int pa_nil)))) pa_nil)) (pg_name (i := 3) sc.nd rfl (.inl rfl)) (pss_cons (ps_par (i := 4) (j := 5) rfl sc.nd rfl rfl (by decide) rfl rfl (pa_cons (pe_cg c__law_pick gA hr (by omega) (by rfl) (pa_cons (pv 0) (pa_cons (pe_lit (ρ := []) (.lst (.cons .str (.cons .str (.cons .str .nil))) (Nat.le_of_ble_eq_true rfl))) pa_nil))) (pa_cons (pe_cg c__law_take gA hr (by omega) (by rfl) (pa_cons (pv 0) (pa_cons (pv 1) pa_nil))) pa_nil)) (by rfl))
    (pss_one (ps_set (i := 2) sc.nd rfl (.inl rfl) (pe_ifExp (pt_cmpR op_eq (pe_cg c__law_take gA hr (by omega) (by rfl) (pa_cons (pv 0) (pa_cons pe_int pa_nil))) pe_int (nomark _)) (pe_tup (pa_cons (pv 4) (pa_cons (pv 2) (pa_cons (pv 5) pa_nil)))) (pe_tup (pa_cons (pv 4) (pa_cons (pv 5) (pa_cons (pv 2) pa_nil)))))))))
    (pss_one (ps_ret (pv 2))))), ?_⟩
  refine ⟨_, rfl, _, rfl, b, n, rfl, hb, by omega, by omega, fun d0 H1 k1 b1 h0 h1 => ?_⟩
  obtain ⟨i0, rfl⟩ : ∃ i : Nat, d0 = (i : Int) := ⟨d0.toNat, by omega⟩
  refine ⟨_, rfl, b, 7, rfl, b1, by decide, by decide, fun r0 H2 k2 b2 r00 r01 => ⟨_, _, rfl, rfl, 1 + r0, rfl, by omega, by omega, for_range (n := (1 + r0).toNat) (fun i σ Hx => ∃ (vr : V) (f : Fm) (y3 y4 y5 : Option V), σ = [some (.ref b), some (.int n), some vr, y3, y4, y5] ∧ Keep b H Hx ∧ BagAt b Hx ∧ Da (off b Hx) vr (toD f) ∧ Below n f ∧ size f = 1 + 2 * i)
    ⟨_, .nm i0, none, none, none, rfl, k1.trans k2, b2, by rw [toD]; exact .int _, fun m hm => ?_, rfl⟩ (fun i σ Hx hi hp => ?_) (fun σ Hx hp => ?_)⟩⟩
  · have e : m = i0 := List.mem_singleton.mp hm
    rw [e]
    exact h1
  · obtain ⟨vr, f, y3, y4, y5, rfl, kx, bx, dx, wx, sx⟩ := hp
    refine ⟨_, rfl, off b Hx, off_same, (fun _ z => nomatch z), fun v2 Ha s2 d2 => ?_⟩
    have ba := bx.same s2
    refine ⟨b, v2, _, rfl, ba, lit_off bx s2 d2, (by simp), Nat.le_of_ble_eq_true rfl, fun r dw Hb kb bb hm hd => ?_⟩
    obtain ⟨ww, rfl⟩ := word_mem hm
    obtain rfl := hd.str_inv
    refine ⟨_, rfl, _, rfl, b, n, rfl, bb, by omega, by omega, fun d1 Hc kc bc c0 c1 => ⟨_, _, rfl, ?_⟩⟩
    obtain ⟨i1, rfl⟩ : ∃ i : Nat, d1 = (i : Int) := ⟨d1.toNat, by omega⟩
    refine ⟨_, rfl, b, 2, rfl, bc, by decide, by decide, fun t Hd kd bd t0 t1 => ⟨rfl, _, rfl, ?_⟩⟩
    have kk : Keep b Hx Hd := (((Keep.of s2).trans kb).trans kc).trans kd
    have dx' := dx.same kk
    have own : ∀ H', Da H' (.int (i1 : Int)) (toD (.nm i1)) := fun H' => by rw [toD]; exact .int _
    have wown : Below n (.nm i1) := fun m hm => by
      have e : m = i1 := List.mem_singleton.mp hm
      rw [e]
      exact c1
    refine ite2 (fun c => ?_) (fun c => ?_)
    · refine ⟨_, rfl, _, rfl, _, rfl, (by show 3 ≤ sizeLine; decide), fun p np => ?_⟩
      refine ⟨.ref p, .op ww f (.nm i1), _, _, _, rfl, (kx.trans kk).trans (Keep.of (same_new np)), bd.same (same_new np), ?_, fun m hm => (List.mem_append.mp hm).elim (wx m) (wown m), ?_⟩
      · rw [toD]
        exact .tup (off_new bd np) (.cons (.str _) (.cons (dx'.same (Keep.of (same_new np))) (.cons (own _) .nil)))
      · rw [size, sx, size]
        omega
    · refine ⟨_, rfl, _, rfl, _, rfl, (by show 3 ≤ sizeLine; decide), fun p np => ?_⟩
      refine ⟨.ref p, .op ww (.nm i1) f, _, _, _, rfl, (kx.trans kk).trans (Keep.of (same_new np)), bd.same (same_new np), ?_, fun m hm => (List.mem_append.mp hm).elim (wown m) (wx m), ?_⟩
      · rw [toD]
        exact .tup (off_new bd np) (.cons (.str _) (.cons (own _) (.cons (dx'.same (Keep.of (same_new np))) .nil)))
      · rw [size, sx, size]
        omega
  · obtain ⟨vr, f, y3, y4, y5, rfl, kx, bx, dx, wx, sx⟩ := hp
    exact ⟨_, rfl, q vr f Hx kx bx dx wx (by omega)⟩
end
end K42

namespace K42
open PySem L2 VK Fml
structure Rp (d : PyData) : Prop where
  sh : d.showable = true
  dp : d.depth ≤ 100
  ln : d.shown.length ≤ sizeLine
theorem rp_of {h L : Nat} {d : PyData} (f : Fit h L d) (h1 : h ≤ 100) (h2 : L ≤ 100000) : Rp d := ⟨f.sh, Nat.le_trans f.dp h1, Nat.le_trans (Nat.le_trans f.ln h2) (by rw [sizeLine_eq]; decide)⟩
theorem fm_fit {f : Fm} (h : ∀ i ∈ names f, i < 100) (hs : size f ≤ 15) : Fit 14 300 (toD f) := by
  have := ht_size f
  exact (fit_fm f h).mono (by omega) (by omega)
theorem rp_fm {f : Fm} (h : ∀ i ∈ names f, i < 100) (hs : size f ≤ 15) : Rp (toD f) := rp_of (fm_fit h hs) (by decide) (by decide)
theorem rp_ok {f : Fm} (h : ∀ i ∈ names f, i < 100) (hs : size f ≤ 15) : Rp (.list [.str "ok", toD f]) := by
  refine rp_of (Fit.lstAll (h := 14) (L := 300) (ds := [.str "ok", toD f]) fun d hd => ?_) (Nat.le_of_ble_eq_true rfl) (Nat.le_of_ble_eq_true rfl)
  simp only [List.mem_cons, List.not_mem_nil, or_false] at hd
  rcases hd with rfl | rfl
  · exact (show Fit 0 10 (.str "ok") from fit_of (by decide +kernel)).mono (by decide) (by decide)
  · exact fm_fit h hs
theorem rp_three {x : Str} {n : Nat} (hx : Fit 0 20 (.str x)) (hn : n < 100) : Rp (.list [.str x, .int (n : Int), .bool true]) := by
  refine rp_of (Fit.lstAll (h := 0) (L := 20) (ds := [.str x, .int (n : Int), .bool true]) fun d hd => ?_) (Nat.le_of_ble_eq_true rfl) (Nat.le_of_ble_eq_true rfl)
  simp only [List.mem_cons, List.not_mem_nil, or_false] at hd
  rcases hd with rfl | rfl | rfl
  · exact hx
  · exact (fit_int (by omega) (by omega)).mono (by decide) (by decide)
  · exact (show Fit 0 20 (.bool true) from fit_of (by decide +kernel))
theorem rp_once {n : Nat} (hn : n < 100) : Rp (.list [.str "once", .int (n : Int), .bool true]) := rp_three (fit_of (by decide +kernel)) hn
theorem rp_taken {n : Nat} (hn : n < 100) : Rp (.list [.str "taken", .int (n : Int), .bool true]) := rp_three (fit_of (by decide +kernel)) hn
/-- a formula holds no list -/
theorem fm_off {b : Addr} {H : Hp} (hb : BagAt b H) : ∀ {f : Fm} {v : V}, Da H v (toD f) → Da (off b H) v (toD f)
  | .nm i, v, h => by
    rw [toD] at h ⊢
    have e := h.int_inv
    subst e
    exact .int _
  | .op w x y, v, h => by
    obtain ⟨p, va, vb, rfl, hp, hx, hy⟩ := Da.fm h
    rw [toD]
    refine .tup (off_put (fun e => ?_) hp) (.cons (.str _) (.cons (fm_off hb hx) (.cons (fm_off hb hy) .nil)))
    obtain ⟨g, s, n, eb, _⟩ := hb
    rw [e, eb] at hp
    cases hp
/-- a list told with a text at its head is no bag -/
theorem lst_str {b : Addr} {H : Hp} {r : V} {x : Str} {ds : List PyData} (hb : BagAt b H) (h : Da H r (.list (.str x :: ds))) : ∃ p vs, r = .ref p ∧ off b H p = some (.lst (.str x :: vs)) ∧ DaAll H vs ds := by
  obtain ⟨p, xs, rfl, hp, hx⟩ := h.lst_inv
  cases hx with
  | cons h1 r1 =>
    have e := h1.str_inv
    subst e
    refine ⟨p, _, rfl, off_put (fun e => ?_) hp, r1⟩
    obtain ⟨g, s, n, eb, _⟩ := hb
    rw [e, eb] at hp
    cases hp
theorem names_first (f : Fm) : ∃ i, (names f)[0]? = some i ∧ i ∈ names f := by
  have hp : ∀ f : Fm, names f ≠ [] := by
    intro f
    induction f with
    | nm i => exact fun e => by cases e
    | op w a b iha _ => exact fun e => iha (List.append_eq_nil_iff.mp e).1
  cases h : names f with
  | nil => exact absurd h (hp f)
  | cons i l => exact ⟨i, rfl, List.mem_cons_self⟩
theorem nmI_first {f : Fm} {i : Nat} (h : (names f)[0]? = some i) : ((nmI f).map V.int)[0]? = some (.int (i : Int)) := by
  unfold nmI
  rw [List.getElem?_map, List.getElem?_map, h]
  rfl
/-- the names' places changed, in order -/
def swN (x o : Nat) (k : Int) : Int := if k = (x : Int) then (o : Int) else k
theorem swN_names {f : Fm} {x o : Nat} (h : (names f).count x = 1) : (nmI (sol x f (.nm o))).Perm ((nmI f).map (swN x o)) := by
  have p := (sol_names (o := o) h).map (fun i : Nat => (i : Int))
  unfold nmI
  refine p.trans ?_
  rw [List.map_map, List.map_map]
  refine List.Perm.of_eq (List.map_congr_left fun i _ => ?_)
  show (((if i = x then o else i : Nat)) : Int) = swN x o (i : Int)
  unfold swN
  by_cases e : i = x
  · rw [if_pos e, if_pos (by rw [e])]
  · rw [if_neg e, if_neg (by omega)]
theorem sorted_eq {l m : List Int} (p : l.Perm m) (hl : l.Pairwise (· ≤ ·)) (hm : m.Pairwise (· ≤ ·)) : l = m :=
  List.Perm.eq_of_pairwise (fun _ _ _ _ h1 h2 => Int.le_antisymm h1 h2) hl hm p
theorem len_nmI (f : Fm) : (nmI f).length ≤ size f := by
  unfold nmI
  rw [List.length_map]
  exact size_names f
/-! ### things -/
def ThOk (n : Nat) (ths : List Int) : Prop := ths.length = 8 ∧ ∀ t ∈ ths, 0 ≤ t ∧ t < (n : Int)
theorem ThOk.lt {n : Nat} {ths : List Int} (h : ThOk n ths) (hn : 1 ≤ n) (i : Nat) : thAt ths i < n := by
  unfold thAt Lat.nth
  by_cases hi : i < ths.length
  · rw [List.getD_eq_getElem?_getD, List.getElem?_eq_getElem hi]
    have := h.2 _ (List.getElem_mem hi)
    show (ths[i]).toNat < n
    omega
  · rw [List.getD_eq_getElem?_getD, List.getElem?_eq_none (by omega)]
    show (0 : Int).toNat < n
    exact hn
theorem ThOk.at {n : Nat} {ths : List Int} (h : ThOk n ths) {i : Nat} (hi : i < 8) : i < ths.length ∧ 0 ≤ Lat.nth ths i ∧ Lat.nth ths i < (n : Int) := by
  have hl : i < ths.length := by rw [h.1]; exact hi
  refine ⟨hl, ?_⟩
  have e := Lat.nth_get hl
  exact h.2 _ (List.mem_of_getElem? e)
theorem ThOk.set {n : Nat} {ths : List Int} (h : ThOk n ths) (o : Nat) {t : Int} (h0 : 0 ≤ t) (h1 : t < n) : ThOk n (ths.set o t) := by
  refine ⟨by rw [List.length_set]; exact h.1, fun u hu => ?_⟩
  rcases List.mem_or_eq_of_mem_set hu with z | z
  · exact h.2 u z
  · rw [z]; exact ⟨h0, h1⟩
theorem th_set_same {ths : List Int} {o : Nat} {t : Int} (h : o < ths.length) : thAt (ths.set o t) o = t.toNat := by
  unfold thAt Lat.nth
  rw [List.getD_eq_getElem?_getD, List.getElem?_set_self h]
  rfl
theorem th_set_ne {ths : List Int} {o i : Nat} {t : Int} (h : i ≠ o) : thAt (ths.set o t) i = thAt ths i := by
  unfold thAt Lat.nth
  rw [List.getD_eq_getElem?_getD, List.getD_eq_getElem?_getD, List.getElem?_set_ne (Ne.symm h)]
theorem nth_th {n : Nat} {ths : List Int} (h : ThOk n ths) {i : Nat} (hi : i < 8) : Lat.nth ths i = ((thAt ths i : Nat) : Int) := by
  have := h.at hi
  unfold thAt
  omega
theorem set_ints (l : List Int) (o : Nat) (t : Int) : (l.map V.int).set o (.int t) = (l.set o t).map V.int := by
  rw [List.map_set]
theorem keep_upd {b D : Addr} {H H' : Hp} {o : HO} (k : Keep b H H') (nD : H D = none) : Keep b H (upd H' D o) := fun z u e =>
  off_put (off_get e).1 (by rw [upd_ne (ne_of_none (off_get e).2 nD)]; exact off_same _ _ (k _ _ e))
theorem bag_upd {b D : Addr} {H : Hp} {o : HO} (h : BagAt b H) (ne : b ≠ D) : BagAt b (upd H D o) := by
  obtain ⟨g, s, n, e, r⟩ := h
  exact ⟨g, s, n, by rw [upd_ne ne]; exact e, r⟩
theorem bag_ne {b D : Addr} {H : Hp} (h : BagAt b H) (nD : H D = none) : b ≠ D := fun e => by
  obtain ⟨g, s, n, eb, _⟩ := h
  rw [e, nD] at eb
  cases eb
end K42

namespace K42
open PySem L2 VK Fml
abbrev slaw : Stmt := top 25
def lawN : List Str := ["_law_script", "_law_deck_here", "_law_turn", "_law_names", "_law_formula_here", "_law_there", "_law_shown", "_law_name", "_law_out", "_law_told_here", "_law_due", "_law_known", "_law_table_here", "_law_again", "_law_things", "_law_is_so", "_law_own"]
theorem scLaw : FnScope lawN ["_law_script"] (defScope slaw) := ⟨rfl, rfl, rfl, by decide +kernel, rfl, by decide +kernel, by decide +kernel⟩
def spLaw (K : PySem.W.Frag) : Sp := fun vs H Q _ => ∃ (a : Addr) (ns : List Int), vs = [.ref a] ∧ SqL K H a (ns.map V.int) ∧ ns.length ≤ 63 ∧ ∀ H', Q (.bl true) H'
def teThing (K : PySem.W.Frag) : TE := tCall spDraw [] E0 (tCons (tVar 1) (tCons (tCB (fun xs H Q => ∃ p ys, xs = [V.ref p] ∧ (SqL K H p ys ∨ SqT K H p ys) ∧ Q (.int ys.length) H) (tCons (tVar 12) tNil)) tNil))
def tForm : TE := fun σ H Q => ∃ b n t, σ[1]? = some (some (V.ref b)) ∧ σ[2]? = some (some (V.int t)) ∧ σ[3]? = some (some (V.int n)) ∧ BagAt b H ∧ 1 ≤ n ∧ n ≤ 9 ∧
  ∀ r f H', Keep b H H' → BagAt b H' → Da (off b H') r (toD f) → Below n f → size f ≤ 15 → Q r H'
theorem form_ok : ∀ σ H Q, tForm σ H Q → tIf (tTest (tOp (rI0 fun i j => .bl (decide (i < j))) (tOp (rI (fun _ j => 0 < j) fun i j => .int (i % j)) (tVar 2) (tC (.int 3))) (tC (.int 2))))
    (tCall (spFormula 4) [] E0 (tCons (tVar 1) (tCons (tVar 3) (tCons (tCall spDraw [] E0 (tCons (tVar 1) (tCons (tC (.int 4)) tNil))) tNil)))) (tCall spChain [] E0 (tCons (tVar 1) (tCons (tVar 3) tNil))) σ H Q := fun σ H Q h => by
  obtain ⟨b, n, t, e1, e2, e3, hb, hn1, hn9, q⟩ := h
  refine ⟨_, e2, _, _, rfl, rfl, (by show (0 : Int) < 3; decide), _, _, rfl, rfl, _, rfl, ite2 (fun _ => ?_) (fun _ => ?_)⟩
  · refine ⟨_, e1, _, e3, _, e1, b, 4, rfl, hb, by decide, by decide, fun d H1 k1 b1 d0 d1 => ?_⟩
    obtain ⟨j, rfl⟩ : ∃ j : Nat, d = (j : Int) := ⟨d.toNat, by omega⟩
    refine ⟨b, n, j, rfl, b1, hn1, hn9, by omega, fun r f H2 k2 b2 hd hw hs => q r f H2 (k1.trans k2) b2 hd hw ?_⟩
    have : 2 ^ (j + 1) ≤ 2 ^ 4 := Nat.pow_le_pow_right (by decide) (by omega)
    omega
  · exact ⟨_, e1, _, e3, b, n, rfl, hb, hn1, hn9, q⟩
section
variable {P : Program} {w : World} {K : PySem.W.Frag} {mg : Str → Option Value} {base : Heap}
theorem ok_law {f : Addr} {fd : FuncData} (F : Fun K "law" "law" slaw f fd) (hsys : ∃ o, base.get? sysModules = some o) (c__law_deck : CalG P w K mg base 1 "_law_deck" (spBag K)) (c__law_take : CalG P w K mg base 1 "_law_take" spDraw)
    (c__law_formula : CalG P w K mg base 6 "_law_formula" (spFormula 4)) (c_size : CalG P w K mg base 3 "size" spSize) (c__law_chain : CalG P w K mg base 3 "_law_chain" spChain)
    (c__law_names_in : CalG P w K mg base 20 "_law_names_in" (spNamesL 20)) (c__law_told : CalG P w K mg base 5 "_law_told" spTold) (c__law_table : CalG P w K mg base 3 "_law_table" spTable) (c__law_tells : CalG P w K mg base 20 "_law_tells" (spTells 20))
    (b_range : mg "range" = none) (b_repr : mg "repr" = none) (b_sorted : mg "sorted" = none) (b_len : mg "len" = none) : FnG P w K mg base CX0 25 f fd ["_law_script"] (spLaw K) := by
  have sc := scLaw
  refine okG F sc (fun vs H Q E h => ?_) fun cdv A outer s H vs Q E gA hr h => ?_
  · obtain ⟨a, ns, rfl, _⟩ := h
    rfl
  obtain ⟨a, ns, rfl, hS, h63, q⟩ := h
  have hu : (A.deeper (PyProof.Rows.envOfC "law" (defScope slaw) s.heap.objs.size f cdv)).units + 150 < cLine := by
    have := hr.un
    omega
  have hu64 : (A.deeper (PyProof.Rows.envOfC "law" (defScope slaw) s.heap.objs.size f cdv)).units + 64 < cLine := by omega
  refine ⟨_, (pss_cons (ps_set (i := 1) sc.nd rfl (.inr rfl) (pe_cg c__law_deck gA hr (by omega) (by rfl) (pa_cons (pv 0) pa_nil)))
    (pss_cons (ps_for PassesOwn.never rfl (pi_range1 rfl b_range (pa_cons pe_int pa_nil)) (pg_name (i := 2) sc.nd rfl (.inl rfl)) (pss_cons (ps_set (i := 3) sc.nd rfl (.inl rfl) (pe_op op_add pe_int (pe_cg c__law_take gA hr (by omega) (by rfl) (pa_cons (pv 1) (pa_cons pe_int pa_nil)))))
    (pss_cons (ps_set (i := 4) sc.nd rfl (.inl rfl) (PE.imp (t' := tForm) (pe_ifExp (pt_cmpR op_lt (pe_op op_mod (pv 2) pe_int) pe_int (nomark _)) (pe_cg c__law_formula gA hr (by omega) (by rfl) (pa_cons (pv 1) (pa_cons (pv 3) (pa_cons (pe_cg c__law_take gA hr (by omega) (by rfl) (pa_cons (pv 1) (pa_cons pe_int pa_nil))) pa_nil)))) (pe_cg c__law_chain gA hr (by omega) (by rfl) (pa_cons (pv 1) (pa_cons (pv 3) pa_nil)))) form_ok))
    (pss_cons (ps_par (i := 5) (j := 6) rfl sc.nd rfl rfl (by decide) rfl rfl (pa_cons (pe_cg c__law_names_in gA hr (by omega) (by rfl) (pa_cons (pv 4) pa_nil)) (pa_cons (pe_callB (call_repr gA hu hsys) (by rfl) b_repr (by decide +kernel) (pa_cons (pv 4) pa_nil)) pa_nil)) (by rfl))
    (pss_one (ps_for PassesOwn.never rfl (pi_range1 rfl b_range (pa_cons pe_int pa_nil)) (pg_name (i := 7) sc.nd rfl (.inr rfl)) (pss_one (ps_for PassesOwn.never rfl (pi_list (pe_lst (pa_cons (pe_cg c__law_take gA hr (by omega) (by rfl) (pa_cons (pv 1) (pa_cons pe_int pa_nil))) (pa_cons (pe_ix ix_list (pv 5) pe_int (fun _ _ => rfl)) (pa_cons pe_int pa_nil))))) (pg_name (i := 8) sc.nd rfl (.inr rfl)) (pss_cons (ps_set (i := 9) sc.nd rfl (.inl rfl) (pe_cg c__law_told gA hr (by omega) (by rfl) (pa_cons (pv 4) (pa_cons (pv 7) (pa_cons (pv 8) pa_nil)))))
    (pss_one (ps_if (PW.pt (pw_or (pt_cmpR op_ne (pe_bm PySem.F.plainAttrs_list PySem.F.slot_list_count PySem.F.type_list_count mt_lcount (pv 5) (pa_cons (pv 7) pa_nil)) pe_int (nomark _)) (pw_or1 (pt_cmpR op_in_seq (pv 8) (pv 5) rfl)))) (pss_cons (ps_set (i := 10) sc.nd rfl (.inl rfl) (pe_ifExp (pt_cmpR op_ne (pe_bm PySem.F.plainAttrs_list PySem.F.slot_list_count PySem.F.type_list_count mt_lcount (pv 5) (pa_cons (pv 7) pa_nil)) pe_int (nomark _)) (pe_lst (pa_cons pe_str (pa_cons (pv 7) (pa_cons pe_bl pa_nil)))) (pe_lst (pa_cons pe_str (pa_cons (pv 8) (pa_cons pe_bl pa_nil))))))
    (pss_one (ps_if (pt_cmpR op_ne (pe_callB (call_repr gA hu hsys) (by rfl) b_repr (by decide +kernel) (pa_cons (pv 9) pa_nil)) (pe_callB (call_repr gA hu hsys) (by rfl) b_repr (by decide +kernel) (pa_cons (pv 10) pa_nil)) (nomark _)) (pss_one (ps_ret pe_bl)) pss_nil))) (pss_cons (ps_set (i := 11) sc.nd rfl (.inl rfl) (pe_callB (cr_sorted) (by rfl) b_sorted (by decide +kernel) (pa_cons (pe_lc (own := [("_law_own", 16)]) (g := gName 16) (tt := tYes) (te := tIf (tTest (tOp rEq (tVar 16) (tVar 7))) (tVar 8) (tVar 16)) rfl sc.nd (pi_list (pv 5)) (blkOk_by (N := lawN) (sc := defScope slaw) (by decide +kernel)) (fun _ _ _ _ _ => pg_name (i := 16) sc.nd rfl (Or.inl rfl)) (fun _ _ _ _ _ => pts_nil) (fun _ _ _ _ _ => pe_ifExp (pt_cmpR op_eq (pv 16) (pv 7) (nomark _)) (pv 8) (pv 16))) pa_nil)))
    (pss_cons (ps_if (PW.pt (pw_or (pt_cmpR op_ne (pe_ix ix_list (pv 9) pe_int (fun _ _ => rfl)) pe_str (nomark _)) (pw_or (pt_cmpR (op_neD hu64) (pe_callB (cr_sorted) (by rfl) b_sorted (by decide +kernel) (pa_cons (pe_cg c__law_names_in gA hr (by omega) (by rfl) (pa_cons (pe_ix ix_list (pv 9) pe_int (fun _ _ => rfl)) pa_nil)) pa_nil)) (pv 11) (nomark _)) (pw_or1 (pt_cmpR op_ne (pe_cg c_size gA hr (by omega) (by rfl) (pa_cons (pe_ix ix_list (pv 9) pe_int (fun _ _ => rfl)) pa_nil)) (pe_cg c_size gA hr (by omega) (by rfl) (pa_cons (pv 4) pa_nil)) (nomark _)))))) (pss_one (ps_ret pe_bl)) pss_nil)
    (pss_cons (ps_if (PW.pt (pw_or (pt_cmpR op_ne (pe_callB (call_repr gA hu hsys) (by rfl) b_repr (by decide +kernel) (pa_cons (pe_cg c__law_told gA hr (by omega) (by rfl) (pa_cons (pe_ix ix_list (pv 9) pe_int (fun _ _ => rfl)) (pa_cons (pv 8) (pa_cons (pv 7) pa_nil)))) pa_nil)) (pe_callB (call_repr gA hu hsys) (by rfl) b_repr (by decide +kernel) (pa_cons (pe_lst (pa_cons pe_str (pa_cons (pv 4) pa_nil))) pa_nil)) (nomark _)) (pw_or1 (pt_cmpR op_ne (pe_callB (call_repr gA hu hsys) (by rfl) b_repr (by decide +kernel) (pa_cons (pv 4) pa_nil)) (pv 6) (nomark _))))) (pss_one (ps_ret pe_bl)) pss_nil)
    (pss_cons (ps_set (i := 12) sc.nd rfl (.inr rfl) (pe_cg c__law_table gA hr (by omega) (by rfl) (pa_cons (pv 1) (pa_cons (pe_op op_add pe_int (pe_cg c__law_take gA hr (by omega) (by rfl) (pa_cons (pv 1) (pa_cons pe_int pa_nil)))) pa_nil))))
    (pss_one (ps_for PassesOwn.never rfl (pi_range1 rfl b_range (pa_cons pe_int pa_nil)) (pg_name (i := 13) sc.nd rfl (.inl rfl)) (pss_cons (ps_setLc (i := 14) (own := [("_law_own", 16)]) (g := gName 16) (tt := tYes) (te := teThing K) rfl sc.nd rfl rfl (sw_true rfl rfl rfl (by decide +kernel)) (pi_range1 rfl b_range (pa_cons pe_int pa_nil)) (blkOk_by (N := lawN) (sc := defScope slaw) (by decide +kernel)) (fun _ _ _ _ _ => pg_name (i := 16) sc.nd rfl (Or.inl rfl)) (fun _ _ _ _ _ => pts_nil) (fun _ _ _ _ _ => pe_cg c__law_take gA hr (by omega) (by rfl) (pa_cons (pv 1) (pa_cons (pe_callB (call_len_seq) (by rfl) b_len PySem.boot_len (pa_cons (pv 12) pa_nil)) pa_nil))))
    (pss_cons (ps_asg (pe_cg c__law_tells gA hr (by omega) (by rfl) (pa_cons (pv 12) (pa_cons (pv 14) (pa_cons (pv 4) pa_nil)))) (pg_sub (pv 14) (pv 8) set_list))
    (pss_cons (ps_if (pt_cmpR op_ne (pe_cg c__law_tells gA hr (by omega) (by rfl) (pa_cons (pv 12) (pa_cons (pv 14) (pa_cons (pe_ix ix_list (pv 9) pe_int (fun _ _ => rfl)) pa_nil)))) (pe_ix ix_list (pv 14) (pv 7) (fun _ _ => rfl)) (nomark _)) (pss_one (ps_ret pe_bl)) pss_nil)
    (pss_cons (ps_asg (pe_cg c__law_take gA hr (by omega) (by rfl) (pa_cons (pv 1) (pa_cons (pe_callB (call_len_seq) (by rfl) b_len PySem.boot_len (pa_cons (pv 12) pa_nil)) pa_nil))) (pg_sub (pv 14) (pv 8) set_list))
    (pss_cons (ps_set (i := 15) sc.nd rfl (.inl rfl) (pe_cmpR op_eq (pe_cg c__law_tells gA hr (by omega) (by rfl) (pa_cons (pv 12) (pa_cons (pv 14) (pa_cons (pv 4) pa_nil)))) (pe_ix ix_list (pv 14) (pv 8) (fun _ _ => rfl)) (nomark _)))
    (pss_one (ps_if (pt_cmpR op_ne (pe_cmpR op_eq (pe_cg c__law_tells gA hr (by omega) (by rfl) (pa_cons (pv 12) (pa_cons (pv 14) (pa_cons (pe_ix ix_list (pv 9) pe_int (fun _ _ => rfl)) pa_nil)))) (pe_ix ix_list (pv 14) (pv 7) (fun _ _ => rfl)) (nomark _)) (pv 15) (nomark _)) (pss_one (ps_ret pe_bl)) pss_nil))))))))))))))))))))))))
    (pss_one (ps_ret pe_bl)))), ?_⟩
  refine ⟨_, rfl, a, ns, rfl, hS, h63, fun b H0 s0 b0 => ?_⟩
  refine ⟨8, rfl, by decide, by decide, for_range (n := 8) (fun i σ Hx => (∃ y2 y3 y4 y5 y6 y7 y8 y9 y10 y11 y12 y13 y14 y15 y16, σ = [some (.ref a), some (.ref b), y2, y3, y4, y5, y6, y7, y8, y9, y10, y11, y12, y13, y14, y15, y16]) ∧ BagAt b Hx)
    ⟨⟨_, _, _, _, _, _, _, _, _, _, _, _, _, _, _, rfl⟩, b0⟩ (fun i1 σ Hx hi1 hp => ?_) (fun σ Hx hp => ?_)⟩
  · obtain ⟨⟨y2, y3, y4, y5, y6, y7, y8, y9, y10, y11, y12, y13, y14, y15, y16, rfl⟩, bx⟩ := hp
    refine ⟨_, rfl, b, 7, rfl, bx, by decide, by decide, fun d1 H1 k1 b1 d10 d11 => ⟨_, _, rfl, rfl, ?_⟩⟩
    refine ⟨b, 2 + d1, 0 + (i1 : Int), rfl, rfl, rfl, b1, by omega, by omega, fun vf f H2 k2 b2 df wf sf => ?_⟩
    have h20 : ht f < 20 := by have := ht_size f; omega
    have n8 : ∀ i ∈ names f, i < 8 := fun i hi => by have := wf i hi; omega
    have n100 : ∀ i ∈ names f, i < 100 := fun i hi => by have := n8 i hi; omega
    have rf := rp_fm n100 sf
    refine ⟨_, rfl, vf, f, rfl, df.same off_same, h20, by omega, fun pn Hg s3 npn en => ?_⟩
    have bg := b2.same s3
    have dfg : Da (off b Hg) vf (toD f) := df.same (Keep.of s3)
    have eg : off b Hg pn = some (.lst ((nmI f).map V.int)) := off_put (fun e => by
      obtain ⟨g', x', m', eb', _⟩ := b2
      rw [e, eb'] at npn
      cases npn) en
    refine ⟨_, rfl, vf, toD f, rfl, dfg.same off_same, rf.sh, rf.dp, rf.ln, _, _, rfl, ?_⟩
    clear s3 npn en df k1 k2 b1 b2
    -- the names
    refine ⟨8, rfl, by decide, by decide, for_range (n := 8) (fun i σ Hx => (∃ y7 y8 y9 y10 y11 y12 y13 y14 y15 y16, σ = [some (.ref a), some (.ref b), some (.int (0 + (i1 : Int))), some (.int (2 + d1)), some vf, some (.ref pn), some (.str (toD f).shown), y7, y8, y9, y10, y11, y12, y13, y14, y15, y16]) ∧ BagAt b Hx ∧ Keep b Hg Hx)
      ⟨⟨_, _, _, _, _, _, _, _, _, _, rfl⟩, bg, Keep.refl _ _⟩ (fun x σ Hx hx hp => ?_) (fun σ Hx hp => ?_)⟩
    · obtain ⟨⟨z7, z8, z9, z10, z11, z12, z13, z14, z15, z16, rfl⟩, bx, kx⟩ := hp
      have ez : (0 : Int) + (x : Int) = (x : Int) := Int.zero_add _
      rw [ez]
      obtain ⟨i0, hi0, mi0⟩ := names_first f
      have hi08 := n8 i0 mi0
      refine ⟨_, rfl, b, 8, rfl, bx, by decide, by decide, fun o1 Ha ka ba o10 o11 => ?_⟩
      obtain ⟨n1, rfl⟩ : ∃ n1 : Nat, o1 = (n1 : Int) := ⟨o1.toNat, by omega⟩
      have k0 := kx.trans ka
      refine ⟨_, rfl, pn, _, 0, .int (i0 : Int), rfl, rfl, SqL.of (off_same _ _ (k0 _ _ eg)), atI_nat (j := 0) (nmI_first hi0), ?_⟩
      refine ⟨(by show 3 ≤ sizeLine; decide), fun pl npl => ?_⟩
      have kl : Keep b Hg (upd Ha pl (.lst [.int (n1 : Int), .int (i0 : Int), .int 7])) := k0.trans (Keep.of (same_new npl))
      have bl := ba.same (same_new (o := .lst [.int (n1 : Int), .int (i0 : Int), .int 7]) npl)
      have el := off_new (o := .lst [.int (n1 : Int), .int (i0 : Int), .int 7]) ba npl
      generalize upd Ha pl (.lst [.int (n1 : Int), .int (i0 : Int), .int 7]) = Hl at kl bl el
      refine ⟨pl, rfl, ⟨_, SqL.of (off_same _ _ el)⟩, for_list (K := K) (a := pl) (xs := [.int (n1 : Int), .int (i0 : Int), .int 7]) (fun i σ Hx => (∃ y8 y9 y10 y11 y12 y13 y14 y15 y16, σ = [some (.ref a), some (.ref b), some (.int (0 + (i1 : Int))), some (.int (2 + d1)), some vf, some (.ref pn), some (.str (toD f).shown), some (.int (x : Int)), y8, y9, y10, y11, y12, y13, y14, y15, y16]) ∧ BagAt b Hx ∧ Keep b Hl Hx)
        ⟨⟨_, _, _, _, _, _, _, _, _, rfl⟩, bl, Keep.refl _ _⟩ (fun i σ Hx _ hp => SqL.of (off_same _ _ (hp.2.2 _ _ el))) (fun k vo σ Hy hvo hp => ?_) (fun σ Hx hp => ?_)⟩
      · obtain ⟨⟨w8, w9, w10, w11, w12, w13, w14, w15, w16, rfl⟩, by_, ky⟩ := hp
        obtain ⟨o, ho8, rfl⟩ : ∃ o : Nat, o < 8 ∧ vo = .int (o : Int) := by
          have hm := List.mem_of_getElem? hvo
          simp only [List.mem_cons, List.not_mem_nil, or_false] at hm
          rcases hm with rfl | rfl | rfl
          · exact ⟨n1, by omega, rfl⟩
          · exact ⟨i0, hi08, rfl⟩
          · exact ⟨7, by omega, rfl⟩
        have kgy := kl.trans ky
        have dfy := dfg.same kgy
        have egy := kgy _ _ eg
        have cnt : decide (V.int (((nmI f).count ((x : Int)) : Nat) : Int) = V.int 1) = decide ((names f).count x = 1) := by
          rw [count_nmI, Bool.eq_iff_iff, decide_eq_true_iff, decide_eq_true_iff]
          exact ⟨fun z => by have := V.int.inj z; omega, fun z => by rw [z]; rfl⟩
        have eo : inV (V.int (o : Int)) ((nmI f).map V.int) = decide (o ∈ names f) := in_names f o
        refine ⟨_, rfl, _, rfl, _, rfl, vf, f, x, o, rfl, dfy.same off_same, by omega, fun r Hb sb hr => ?_⟩
        have bb := by_.same sb
        have kgb := kgy.trans (Keep.of sb)
        have klb : Keep b Hl Hb := ky.trans (Keep.of sb)
        have dfb := dfg.same kgb
        have egb := kgb _ _ eg
        have esb := off_same _ _ egb
        have x100 : x < 100 := by omega
        have o100 : o < 100 := by omega
        refine ⟨_, rfl, .inl ⟨rfl, _, SqL.of esb⟩, _, rfl, pn, nmI f, (x : Int), rfl, rfl, SqL.of esb, rfl, _, rfl, ?_⟩
        rw [cnt]
        unfold toldD at hr
        by_cases hc : (names f).count x = 1
        · rw [if_neg (fun z => z hc)] at hr
          rw [decide_eq_true hc]
          refine iteF ⟨_, rfl, _, rfl, pn, _, rfl, .inl (SqL.of esb), rfl, flat_ints _, _, rfl, ?_⟩
          refine ite2 (fun c2 => ?_) (fun c2 => ?_)
          · have hm : o ∈ names f := of_decide_eq_true (eo.symm.trans c2)
            rw [if_pos hm] at hr
            have R := rp_taken o100
            refine ⟨_, rfl, .inl ⟨rfl, _, SqL.of esb⟩, _, rfl, pn, nmI f, (x : Int), rfl, rfl, SqL.of esb, rfl, _, rfl, ?_⟩
            rw [cnt, decide_eq_true hc]
            refine iteF ⟨_, rfl, (by show 3 ≤ sizeLine; decide), fun pd npd => ?_⟩
            refine ⟨_, rfl, r, _, rfl, hr.same (same_new npd), R.sh, R.dp, R.ln, _, rfl, .ref pd, .list [.str "taken", .int (o : Int), .bool true], rfl, .lst upd_same (.cons (.str _) (.cons (.int _) (.cons (.bl _) .nil))), R.sh, R.dp, R.ln, rfl, _, rfl, ?_⟩
            rw [decide_eq_true rfl]
            exact iteF ⟨⟨_, _, _, _, _, _, _, _, _, rfl⟩, bb.same (same_new npd), klb.trans (Keep.of (same_new npd))⟩
          · have hm : o ∉ names f := fun z => c2 (eo.trans (decide_eq_true z))
            rw [if_neg hm] at hr
            have hxm : x ∈ names f := List.one_le_count_iff.mp (by omega)
            obtain ⟨rp, vs, rfl, er, hvs⟩ := lst_str bb hr
            obtain ⟨v1, rfl, dv⟩ : ∃ v1, vs = [v1] ∧ Da Hb v1 (toD (sol x f (.nm o))) := by
              cases hvs with
              | cons h1 r1 =>
                cases r1
                exact ⟨_, rfl, h1⟩
            clear hvs hr
            have dvb := fm_off bb dv
            clear dv
            have bk1 := back_whole (o := o) hc hm
            have cn1 := sol_count (o := o) hc hm
            have sz1 : size (sol x f (.nm o)) = size f := by
              have := size_sol x f (.nm o)
              rw [show size (.nm o) = 1 from rfl] at this
              omega
            have nms := swN_names (o := o) hc
            have tls : ∀ {n : Nat} {g : Nat → Nat → Int} {th : Nat → Nat}, Lat.Is n g → (∀ i, th i < n) → (tells n g th (sol x f (.nm o)) = th x ↔ tells n g th f = th o) := fun L lt => tells_sol L lt f (.nm o) hxm
            have n8s : ∀ i ∈ names (sol x f (.nm o)), i < 8 := fun i hi => by
              have := (names_sol x f (.nm o) hxm).mem_iff.mp hi
              rcases List.mem_append.mp this with z | z
              · exact n8 i (List.mem_of_mem_erase z)
              · rw [List.mem_singleton.mp z]
                exact ho8
            generalize sol x f (.nm o) = sl at dvb bk1 cn1 sz1 nms tls n8s
            have h20s : ht sl < 20 := by have := ht_size sl; omega
            have lnf := len_nmI f
            have lns := len_nmI sl
            -- what is known
            refine ⟨_, rfl, pn, rfl, ⟨_, SqL.of esb⟩, fun D nD => lc_list (K := K) (a := pn) (xs := (nmI f).map V.int) (g := gName 16) (tt := tYes) (te := tIf (tTest (tOp rEq (tVar 16) (tVar 7))) (tVar 8) (tVar 16)) (vs := [16]) (H1 := Hb) (D := D)
              (fun i Hd => Same Hb Hd ∧ Hd D = some (.lst ((((nmI f).take i).map (swN x o)).map V.int))) ⟨same_new nD, upd_same⟩ (fun i Hd _ hp => SqL.of (hp.1 _ _ esb)) (fun i y Hd hy hp => ?_) (fun Hd hp => ?_)⟩
            · obtain ⟨sd, eD⟩ := hp
              rw [List.getElem?_map] at hy
              cases hk : (nmI f)[i]? with
              | none =>
                rw [hk] at hy
                cases hy
              | some m =>
                rw [hk] at hy
                have ey : V.int m = y := Option.some.inj hy
                subst ey
                have hi : i < (nmI f).length := (List.getElem?_eq_some_iff.mp hk).1
                have nxt : ∀ z, V.int (swN x o m) = z → ∃ acc, Hd D = some (.lst acc) ∧ acc.length < sizeLine ∧ (Same Hb (upd Hd D (.lst (acc ++ [z]))) ∧ (upd Hd D (.lst (acc ++ [z]))) D = some (.lst ((((nmI f).take (i + 1)).map (swN x o)).map V.int))) := fun z e => by
                  subst e
                  refine ⟨_, eD, ?_, fun z o e => ?_, ?_⟩
                  · rw [List.length_map, List.length_map, List.length_take]
                    exact small1000 (by omega)
                  · rw [upd_ne (ne_of_none e nD)]
                    exact sd _ _ e
                  · rw [upd_same, List.take_add_one, hk, List.map_append, List.map_append]
                    rfl
                refine ⟨rfl, _, rfl, _, rfl, rfl, _, rfl, ite2 (fun c => ?_) (fun c => ?_)⟩
                · have em : m = (x : Int) := V.int.inj (of_decide_eq_true c)
                  exact ⟨_, rfl, nxt _ (by unfold swN; rw [if_pos em])⟩
                · have em : m ≠ (x : Int) := fun z => c (decide_eq_true (by rw [z]))
                  exact ⟨_, rfl, nxt _ (by unfold swN; rw [if_neg em])⟩
            obtain ⟨sd, eD⟩ := hp
            rw [List.length_map, List.take_length] at eD
            refine ⟨D, (nmI f).map (swN x o), rfl, SqL.of eD, by rw [List.length_map]; omega, fun ks pk perm1 rise1 npk => ?_⟩
            have sk : Same Hb (upd Hd pk (.lst (ks.map V.int))) := sd.trans (same_new npk)
            have ek : (upd Hd pk (.lst (ks.map V.int))) pk = some (.lst (ks.map V.int)) := upd_same
            generalize upd Hd pk (.lst (ks.map V.int)) = Hk at sk ek
            clear eD sd nD npk
            have erb := off_same _ _ er
            have dvs := dvb.same off_same
            -- "ok"
            refine ⟨_, rfl, rp, _, 0, .str "ok", rfl, rfl, SqL.of (sk _ _ erb), atI_nat (j := 0) rfl, rfl, _, rfl, ?_⟩
            rw [decide_eq_true rfl]
            refine iteF ?_
            -- the names
            refine ⟨_, rfl, rp, _, 1, v1, rfl, rfl, SqL.of (sk _ _ erb), atI_nat (j := 1) rfl, v1, sl, rfl, dvs.same sk, h20s, by omega, fun pm Hm sm _ em => ?_⟩
            refine ⟨pm, nmI sl, rfl, SqL.of em, by omega, fun ks2 pk2 perm2 rise2 npk2 => ?_⟩
            have sm2 : Same Hk (upd Hm pk2 (.lst (ks2.map V.int))) := sm.trans (same_new npk2)
            refine ⟨_, rfl, .list (ks2.map PyData.int), .list (ks.map PyData.int), .lst (SqL.of upd_same) (dp_ints ks2), .lst (SqL.of (sm2 _ _ ek)) (dp_ints ks), shaped_ints ks2, shaped_ints ks, _, rfl, ?_⟩
            have ekk : ks2 = ks := sorted_eq ((perm2.trans nms).trans perm1.symm) rise2 rise1
            have ee : PyData.eqv (.list (ks2.map PyData.int)) (.list (ks.map PyData.int)) = true := by
              rw [PyData.eqv, eqv_ints, decide_eq_true ekk]
            rw [ee]
            have sk2 : Same Hb (upd Hm pk2 (.lst (ks2.map V.int))) := sk.trans sm2
            generalize upd Hm pk2 (.lst (ks2.map V.int)) = Hn at sk2
            clear ek sk sm sm2 em npk2
            refine iteF ?_
            -- the sizes
            refine ⟨_, rfl, rp, _, 1, v1, rfl, rfl, SqL.of (sk2 _ _ erb), atI_nat (j := 1) rfl, v1, sl, rfl, dvs.same sk2, by omega, fun Hs ss => ?_⟩
            refine ⟨_, rfl, vf, f, rfl, (dfb.same off_same).same (sk2.trans ss), by omega, fun Hr sr => ⟨rfl, _, rfl, ?_⟩⟩
            rw [sz1, decide_eq_true rfl]
            have s5 := (sk2.trans ss).trans sr
            clear sk2 ss sr
            refine iteF ?_
            -- solved again
            refine ⟨_, rfl, rp, _, 1, v1, rfl, rfl, SqL.of (s5 _ _ erb), atI_nat (j := 1) rfl, _, rfl, _, rfl, v1, sl, o, x, rfl, dvs.same s5, by omega, fun r2 Hu su hr2 => ?_⟩
            unfold toldD at hr2
            rw [if_neg (fun z => z cn1.1), if_neg cn1.2, bk1] at hr2
            have Ro := rp_ok n100 sf
            refine ⟨r2, _, rfl, hr2, Ro.sh, Ro.dp, Ro.ln, ?_⟩
            have s6 := s5.trans su
            refine ⟨_, rfl, (by show 2 ≤ sizeLine; decide), fun pq npq => ?_⟩
            have s7 := s6.trans (same_new (o := .lst [.str "ok", vf]) npq)
            refine ⟨.ref pq, .list [.str "ok", toD f], rfl, .lst upd_same (.cons (.str _) (.cons ((dfb.same off_same).same s7) .nil)), Ro.sh, Ro.dp, Ro.ln, rfl, _, rfl, ?_⟩
            rw [decide_eq_true rfl]
            generalize upd Hu pq (.lst [.str "ok", vf]) = Hq at s7
            refine iteF ⟨_, rfl, vf, toD f, rfl, (dfb.same off_same).same s7, rf.sh, rf.dp, rf.ln, _, rfl, rfl, _, rfl, ?_⟩
            rw [decide_eq_true rfl]
            refine iteF ?_
            clear s5 s6 su hr2 npq
            have bq := bb.same s7
            have klq : Keep b Hl Hq := klb.trans (Keep.of s7)
            have erq := (Keep.of (b := b) s7) _ _ er
            have dfq := dfb.same (Keep.of (b := b) s7)
            have dvq := dvb.same (Keep.of (b := b) s7)
            clear s7
            -- the table
            refine ⟨_, rfl, _, rfl, b, 7, rfl, bq, by decide, by decide, fun d2 Hv kv bv d20 d21 => ⟨_, _, rfl, rfl, ?_⟩⟩
            obtain ⟨n, hn⟩ : ∃ n : Nat, 1 + d2 = (n : Int) := ⟨(1 + d2).toNat, by omega⟩
            have hn1 : 1 ≤ n := by omega
            have hn60 : n ≤ 60 := by omega
            refine ⟨b, n, (by show [V.ref b, V.int (1 + d2)] = _; rw [hn]), bv, hn1, hn60, fun vt g Hw kw bw tab L => ?_⟩
            have kqw : Keep b Hq Hw := kv.trans kw
            have erw := kqw _ _ erq
            have dfw := dfq.same kqw
            have dvw := dvq.same kqw
            obtain ⟨ta, as, rfl, eta, lta, _⟩ := id tab
            have hlen : (((as.map V.ref).length : Nat) : Int) = (n : Int) := by rw [List.length_map, lta]
            refine ⟨2, rfl, by decide, by decide, for_range (n := 2) (fun i σ Hx => (∃ y13 y14 y15 y16, σ = [some (.ref a), some (.ref b), some (.int (0 + (i1 : Int))), some (.int (2 + d1)), some vf, some (.ref pn), some (.str (toD f).shown), some (.int (x : Int)), some (.int (o : Int)), some (.ref rp), w10, some (.ref pk), some (.ref ta), y13, y14, y15, y16]) ∧ BagAt b Hx ∧ Keep b Hw Hx)
              ⟨⟨_, _, _, _, rfl⟩, bw, Keep.refl _ _⟩ (fun j σ Hx hj hp => ?_) (fun σ Hx hp => ?_)⟩
            · obtain ⟨⟨u13, u14, u15, u16, rfl⟩, bx, kx⟩ := hp
              refine ⟨8, rfl, by decide, by decide, fun D nD => lc_range (lo := 0) (n := 8) (g := gName 16) (tt := tYes) (te := teThing K) (vs := [16]) (H1 := Hx) (D := D)
                (fun i Hd => BagAt b Hd ∧ Keep b Hx Hd ∧ ∃ ths : List Int, off b Hd D = some (.lst (ths.map V.int)) ∧ ths.length = i ∧ ∀ t ∈ ths, 0 ≤ t ∧ t < (n : Int))
                ⟨bx.same (same_new nD), Keep.of (same_new nD), [], off_new bx nD, rfl, fun t ht => nomatch ht⟩ (fun i Hd hi hp => ?_) (fun Hd hp => ?_)⟩
              · obtain ⟨bd, kd, ths, eD, lD, okD⟩ := hp
                refine ⟨rfl, _, rfl, _, rfl, ta, _, rfl, .inr (SqT.of (off_same _ _ (kd _ _ (kx _ _ eta)))), b, _, rfl, bd, by rw [hlen]; omega, by rw [hlen]; omega, fun d H' k' b' d0 dl => ?_⟩
                rw [hlen] at dl
                have eD' := k' _ _ eD
                refine ⟨_, off_same _ _ eD', ?_, bag_upd b' (bag_ne bx nD), keep_upd (kd.trans k') nD, ths ++ [d], ?_, by rw [List.length_append, lD]; rfl, fun t ht => ?_⟩
                · rw [List.length_map, lD]
                  exact small1000 (by omega)
                · refine off_put (off_get eD').1 ?_
                  rw [upd_same, List.map_append]
                  rfl
                · rcases List.mem_append.mp ht with z | z
                  · exact okD t z
                  · rw [List.mem_singleton.mp z]
                    exact ⟨d0, dl⟩
              obtain ⟨bd, kd, ths, eD, lD, okD⟩ := hp
              have tho : ThOk n ths := ⟨lD, okD⟩
              have hDb : D ≠ b := (off_get eD).1
              -- what the formula tells
              refine ⟨_, rfl, _, rfl, _, rfl, .ref ta, D, vf, n, g, f, ths, rfl, (tab.same (kx.trans kd)).same off_same, L, hn60, off_same _ _ eD, (dfw.same (kx.trans kd)).same off_same, h20, fun i hi => tho.at (n8 i hi), fun H5 s5 => ?_⟩
              have eD5 := s5 _ _ (off_same _ _ eD)
              refine ⟨_, rfl, _, rfl, D, _, _, o, rfl, rfl, eD5, (by rw [List.length_map, lD]; exact ixN_nat ho8), ?_⟩
              rw [set_ints]
              have tlt : tells n g (thAt ths) f < n := tells_lt L fun i _ => tho.lt hn1 i
              have th1 : ThOk n (ths.set o (tells n g (thAt ths) f : Nat)) := tho.set o (by omega) (by omega)
              have same1 : tells n g (thAt (ths.set o (tells n g (thAt ths) f : Nat))) f = thAt (ths.set o (tells n g (thAt ths) f : Nat)) o := by
                rw [th_set_same (by omega), tells_congr (th' := thAt ths) fun i hi => th_set_ne fun (e : i = o) => hm (by rw [← e]; exact hi)]
                exact (Int.toNat_natCast _).symm
              have k6 : Keep b Hx (upd H5 D (.lst ((ths.set o (tells n g (thAt ths) f : Nat)).map V.int))) := keep_upd (kd.trans (Keep.of s5)) nD
              have b6 : BagAt b (upd H5 D (.lst ((ths.set o (tells n g (thAt ths) f : Nat)).map V.int))) := bag_upd (bd.same s5) (Ne.symm hDb)
              have e6 : (upd H5 D (.lst ((ths.set o (tells n g (thAt ths) f : Nat)).map V.int))) D = some (.lst ((ths.set o (tells n g (thAt ths) f : Nat)).map V.int)) := upd_same
              generalize upd H5 D (.lst ((ths.set o (tells n g (thAt ths) f : Nat)).map V.int)) = H6 at k6 b6 e6
              generalize ths.set o (tells n g (thAt ths) f : Nat) = ths1 at th1 same1 e6
              clear eD5 s5 eD tho okD lD tlt bd kd
              have kw6 := kx.trans k6
              -- so tells the solved one
              refine ⟨_, rfl, _, rfl, _, rfl, rp, _, 1, v1, rfl, rfl, SqL.of (off_same _ _ (kw6 _ _ erw)), atI_nat (j := 1) rfl, .ref ta, D, v1, n, g, sl, ths1, rfl, (tab.same kw6).same off_same, L, hn60, e6, (dvw.same kw6).same off_same, h20s, fun i hi => th1.at (n8s i hi), fun H7 s7 => ?_⟩
              have e7 := s7 _ _ e6
              refine ⟨_, rfl, _, rfl, D, _, _, .int (Lat.nth ths1 x), rfl, rfl, SqL.of e7, atI_nat (nth_map (th1.at hx).1), rfl, _, rfl, ?_⟩
              have eq1 : V.int ((tells n g (thAt ths1) sl : Nat) : Int) = V.int (Lat.nth ths1 x) := by
                rw [nth_th th1 hx, (tls L (th1.lt hn1)).mpr same1]
              rw [decide_eq_true eq1]
              refine iteF ?_
              have b7 := b6.same s7
              have k7 := k6.trans (Keep.of s7)
              -- another thing for out
              refine ⟨_, rfl, _, rfl, ta, _, rfl, .inr (SqT.of (off_same _ _ (k7 _ _ (kx _ _ eta)))), b, _, rfl, b7, by rw [hlen]; omega, by rw [hlen]; omega, fun d3 H8 k8 b8 d30 d31 => ?_⟩
              rw [hlen] at d31
              have e8 := off_same _ _ (k8 _ _ (off_put hDb e7))
              refine ⟨_, rfl, _, rfl, D, _, _, o, rfl, rfl, e8, (by rw [List.length_map, th1.1]; exact ixN_nat ho8), ?_⟩
              rw [set_ints]
              have th2 : ThOk n (ths1.set o d3) := th1.set o d30 d31
              have k9 : Keep b Hx (upd H8 D (.lst ((ths1.set o d3).map V.int))) := keep_upd (k7.trans k8) nD
              have b9 : BagAt b (upd H8 D (.lst ((ths1.set o d3).map V.int))) := bag_upd b8 (Ne.symm hDb)
              have e9 : (upd H8 D (.lst ((ths1.set o d3).map V.int))) D = some (.lst ((ths1.set o d3).map V.int)) := upd_same
              generalize upd H8 D (.lst ((ths1.set o d3).map V.int)) = H9 at k9 b9 e9
              generalize ths1.set o d3 = ths2 at th2 e9
              clear e8 k8 b8 e7 k7 b7 s7 k6 b6 e6 kw6 same1 eq1 th1
              have kw9 := kx.trans k9
              refine ⟨_, rfl, _, rfl, _, rfl, .ref ta, D, vf, n, g, f, ths2, rfl, (tab.same kw9).same off_same, L, hn60, e9, (dfw.same kw9).same off_same, h20, fun i hi => th2.at (n8 i hi), fun Hi si => ?_⟩
              refine ⟨_, rfl, _, rfl, D, _, _, .int (Lat.nth ths2 o), rfl, rfl, SqL.of (si _ _ e9), atI_nat (nth_map (th2.at ho8).1), rfl, ?_⟩
              have kwi := kw9.trans (Keep.of (b := b) si)
              refine ⟨_, rfl, _, rfl, _, rfl, rp, _, 1, v1, rfl, rfl, SqL.of (off_same _ _ (kwi _ _ erw)), atI_nat (j := 1) rfl, .ref ta, D, v1, n, g, sl, ths2, rfl, (tab.same kwi).same off_same, L, hn60, si _ _ e9, (dvw.same kwi).same off_same, h20s, fun i hi => th2.at (n8s i hi), fun Hj sj => ?_⟩
              refine ⟨_, rfl, _, rfl, D, _, _, .int (Lat.nth ths2 x), rfl, rfl, SqL.of (sj _ _ (si _ _ e9)), atI_nat (nth_map (th2.at hx).1), rfl, _, rfl, rfl, _, rfl, ?_⟩
              have eq2 : decide (V.int ((tells n g (thAt ths2) sl : Nat) : Int) = V.int (Lat.nth ths2 x)) = decide (V.int ((tells n g (thAt ths2) f : Nat) : Int) = V.int (Lat.nth ths2 o)) := by
                rw [nth_th th2 hx, nth_th th2 ho8, Bool.eq_iff_iff, decide_eq_true_iff, decide_eq_true_iff]
                have key := tls L (th2.lt hn1)
                constructor
                · intro z
                  have z' := V.int.inj z
                  rw [key.mp (by omega)]
                · intro z
                  have z' := V.int.inj z
                  rw [key.mpr (by omega)]
              rw [decide_eq_true (congrArg V.bl eq2)]
              refine iteF ⟨⟨_, _, _, _, rfl⟩, (b9.same si).same sj, kwi.trans (Keep.of sj)⟩
            · obtain ⟨⟨u13, u14, u15, u16, rfl⟩, bx, kx⟩ := hp
              exact ⟨⟨_, _, _, _, _, _, _, _, _, rfl⟩, bx, klq.trans (kqw.trans kx)⟩
        · rw [if_pos hc] at hr
          have R := rp_once x100
          rw [decide_eq_false hc]
          refine iteT (iteT ?_)
          refine ⟨_, rfl, .inl ⟨rfl, _, SqL.of esb⟩, _, rfl, pn, nmI f, (x : Int), rfl, rfl, SqL.of esb, rfl, _, rfl, ?_⟩
          rw [cnt, decide_eq_false hc]
          refine iteT ⟨_, rfl, (by show 3 ≤ sizeLine; decide), fun pd npd => ?_⟩
          refine ⟨_, rfl, r, _, rfl, hr.same (same_new npd), R.sh, R.dp, R.ln, _, rfl, .ref pd, .list [.str "once", .int (x : Int), .bool true], rfl, .lst upd_same (.cons (.str _) (.cons (.int _) (.cons (.bl _) .nil))), R.sh, R.dp, R.ln, rfl, _, rfl, ?_⟩
          rw [decide_eq_true rfl]
          exact iteF ⟨⟨_, _, _, _, _, _, _, _, _, rfl⟩, bb.same (same_new npd), klb.trans (Keep.of (same_new npd))⟩
      · obtain ⟨⟨w8, w9, w10, w11, w12, w13, w14, w15, w16, rfl⟩, by_, ky⟩ := hp
        exact ⟨⟨_, _, _, _, _, _, _, _, _, _, rfl⟩, by_, kl.trans ky⟩
    · obtain ⟨⟨z7, z8, z9, z10, z11, z12, z13, z14, z15, z16, rfl⟩, bx, kx⟩ := hp
      exact ⟨⟨_, _, _, _, _, _, _, _, _, _, _, _, _, _, _, rfl⟩, bx⟩
  · exact q Hx
end
end K42

namespace K42
open PySem L2 VK
theorem def_mk {K : PySem.W.Frag} {mg : Str → Option Value} {x : Str} {st : Stmt} {ps : List Str} {f : Addr} {oc : Value} {od an : Option Addr} {osl : Array (Option Value)} {kV doc pm cdv ct : Value}
    (m : mg x = some (.ref f)) (l : K.lookup f = some ⟨oc, od, .func (PySem.W.fnOf x x (defArgs st) (defBody st) (defScope st) .none kV doc pm an cdv ct), osl⟩) (c : PySem.W.codeIn K cdv x = true) (k : PySem.W.keepIn K (.ref f) = true)
    (h : ∀ (kV doc pm : Value) (an : Option Addr) (cdv ct : Value) (us : List Value), us.length = ps.length → bindArgs (PySem.W.fnOf x x (defArgs st) (defBody st) (defScope st) .none kV doc pm an cdv ct) ⟨us, []⟩ = pure (ps.zip us)) : DefAt K mg x st ps :=
  ⟨f, _, fun_mk l c k, (fun_mk l c k).binds h, m⟩
theorem exm_is {K : PySem.W.Frag} {S : Addr} {cls : Value} {b : Bool} (h1 : PySem.W.subIn K (.ref S) (.type "BaseException") = some true) (h2 : PySem.W.isClsIn K S = true) (h3 : PySem.W.typeIn K (.ref S) = some (.type "type")) (h4 : PySem.W.subIn K cls (.ref S) = some b) :
    PySem.W.exmOne K cls (.ref S) = some b := by
  have z1 : (PySem.W.subIn K (.ref S) (.type "BaseException") == some true) = true := by rw [h1] <;> rfl
  have z2 : ((PySem.W.clsIn K S).isSome && PySem.W.typeIn K (.ref S) == some (.type "type")) = true := by
    have y : (PySem.W.clsIn K S).isSome = true := h2
    rw [y, h3] <;> rfl
  show (if (PySem.W.subIn K (.ref S) (.type "BaseException") == some true) = true then (if ((PySem.W.clsIn K S).isSome && PySem.W.typeIn K (.ref S) == some (.type "type")) = true then PySem.W.subIn K cls (.ref S) else none) else none) = some b
  rw [if_pos z1, if_pos z2, h4]
theorem kit_ref {K : PySem.W.Frag} {S : Addr} {cls : Value} (h2 : PySem.W.isClsIn K S = true) (h3 : PySem.W.typeIn K (.ref S) = some (.type "type")) (h4 : PySem.W.subIn K cls (.ref S) = some true) : PySem.W.kitOne K cls (.ref S) = some true := by
  have z2 : ((PySem.W.clsIn K S).isSome && PySem.W.typeIn K (.ref S) == some (.type "type")) = true := by
    have y : (PySem.W.clsIn K S).isSome = true := h2
    rw [y, h3] <;> rfl
  unfold PySem.W.kitOne
  by_cases e : (cls == Value.ref S) = true
  · rw [if_pos e]
  · rw [if_neg e]
    show (if ((PySem.W.clsIn K S).isSome && PySem.W.typeIn K (.ref S) == some (.type "type")) = true then PySem.W.subIn K cls (.ref S) else none) = some true
    rw [if_pos z2, h4]
theorem kit_type {K : PySem.W.Frag} {T : String} {cls : Value} (hm : PySem.W.kitMeta T = true) (h4 : PySem.W.subIn K cls (.type T) = some true) : PySem.W.kitOne K cls (.type T) = some true := by
  unfold PySem.W.kitOne
  by_cases e : (cls == Value.type T) = true
  · rw [if_pos e]
  · rw [if_neg e]
    show (if PySem.W.kitMeta T = true then PySem.W.subIn K cls (.type T) else none) = some true
    rw [if_pos hm, h4]
theorem all_mk {l : PySem.W.OpenLaw} {w : World} {K : PySem.W.Frag} {h : Heap} {mg : Str → Option Value} {fa f1 f2 f3 f4 f5 f6 f7 f8 f9 f10 f11 f12 f13 f14 f15 f16 f17 f18 f19 C1 C2 CT I1 I2 : Addr} (X : K.In h) (G : h.Ns mainGlobals mg) (hfa : mg "law" = some (.ref fa))
    {od1 an1 od2 an2 od3 an3 od4 an4 od5 an5 od6 an6 od7 an7 od8 an8 od9 an9 od10 an10 od11 an11 od12 an12 od13 an13 od14 an14 od15 an15 od16 an16 od17 an17 od18 an18 od19 an19 : Option Addr} {sl1 sl2 sl3 sl4 sl5 sl6 sl7 sl8 sl9 sl10 sl11 sl12 sl13 sl14 sl15 sl16 sl17 sl18 sl19 : Array (Option Value)} {oc1 kV1 dc1 pm1 cd1 ct1 oc2 kV2 dc2 pm2 cd2 ct2 oc3 kV3 dc3 pm3 cd3 ct3 oc4 kV4 dc4 pm4 cd4 ct4 oc5 kV5 dc5 pm5 cd5 ct5 oc6 kV6 dc6 pm6 cd6 ct6 oc7 kV7 dc7 pm7 cd7 ct7 oc8 kV8 dc8 pm8 cd8 ct8 oc9 kV9 dc9 pm9 cd9 ct9 oc10 kV10 dc10 pm10 cd10 ct10 oc11 kV11 dc11 pm11 cd11 ct11 oc12 kV12 dc12 pm12 cd12 ct12 oc13 kV13 dc13 pm13 cd13 ct13 oc14 kV14 dc14 pm14 cd14 ct14 oc15 kV15 dc15 pm15 cd15 ct15 oc16 kV16 dc16 pm16 cd16 ct16 oc17 kV17 dc17 pm17 cd17 ct17 oc18 kV18 dc18 pm18 cd18 ct18 oc19 kV19 dc19 pm19 cd19 ct19 : Value}
    {xn1 xq1 : Str} {xN1 : Addr} {xb1 : List Value} {xs1 : List Str} {xu1 : List Value} {xv1 : Bool} {xc1 : Option Bool} {xd1 : Option Addr} {xm10 xm11 xm12 xm13 xm15 : Option Value} {yo1 yc1 ym1 yv1 yt1 : Value} {yd1 ya1 : Option Addr} {ys1 : Array (Option Value)} {p11 p12 q11 q12 q13 q14 : Pos}
    {xn2 xq2 : Str} {xN2 : Addr} {xb2 : List Value} {xs2 : List Str} {xu2 : List Value} {xv2 : Bool} {xc2 : Option Bool} {xd2 : Option Addr} {xm20 xm21 xm22 xm23 xm25 : Option Value} {yo2 yc2 ym2 yv2 yt2 : Value} {yd2 ya2 : Option Addr} {ys2 : Array (Option Value)} {p21 p22 q21 q22 q23 q24 : Pos}
    (a1 : PySem.W.nsIn K mainGlobals "is_whole" = some (some (.ref f1))) (l1 : K.lookup f1 = some ⟨oc1, od1, .func (PySem.W.fnOf "is_whole" "is_whole" (defArgs sis_whole) (defBody sis_whole) (defScope sis_whole) .none kV1 dc1 pm1 an1 cd1 ct1), sl1⟩) (c1 : PySem.W.codeIn K cd1 "is_whole" = true) (k1 : PySem.W.keepIn K (.ref f1) = true)
    (a2 : PySem.W.nsIn K mainGlobals "is_tuple" = some (some (.ref f2))) (l2 : K.lookup f2 = some ⟨oc2, od2, .func (PySem.W.fnOf "is_tuple" "is_tuple" (defArgs sis_tuple) (defBody sis_tuple) (defScope sis_tuple) .none kV2 dc2 pm2 an2 cd2 ct2), sl2⟩) (c2 : PySem.W.codeIn K cd2 "is_tuple" = true) (k2 : PySem.W.keepIn K (.ref f2) = true)
    (a3 : PySem.W.nsIn K mainGlobals "size" = some (some (.ref f3))) (l3 : K.lookup f3 = some ⟨oc3, od3, .func (PySem.W.fnOf "size" "size" (defArgs ssize) (defBody ssize) (defScope ssize) .none kV3 dc3 pm3 an3 cd3 ct3), sl3⟩) (c3 : PySem.W.codeIn K cd3 "size" = true) (k3 : PySem.W.keepIn K (.ref f3) = true)
    (a4 : PySem.W.nsIn K mainGlobals "solved" = some (some (.ref f4))) (l4 : K.lookup f4 = some ⟨oc4, od4, .func (PySem.W.fnOf "solved" "solved" (defArgs ssolved) (defBody ssolved) (defScope ssolved) .none kV4 dc4 pm4 an4 cd4 ct4), sl4⟩) (c4 : PySem.W.codeIn K cd4 "solved" = true) (k4 : PySem.W.keepIn K (.ref f4) = true)
    (a5 : PySem.W.nsIn K mainGlobals "parts" = some (some (.ref f5))) (l5 : K.lookup f5 = some ⟨oc5, od5, .func (PySem.W.fnOf "parts" "parts" (defArgs sparts) (defBody sparts) (defScope sparts) .none kV5 dc5 pm5 an5 cd5 ct5), sl5⟩) (c5 : PySem.W.codeIn K cd5 "parts" = true) (k5 : PySem.W.keepIn K (.ref f5) = true)
    (a6 : PySem.W.nsIn K mainGlobals "names_in" = some (some (.ref f6))) (l6 : K.lookup f6 = some ⟨oc6, od6, .func (PySem.W.fnOf "names_in" "names_in" (defArgs snames_in) (defBody snames_in) (defScope snames_in) .none kV6 dc6 pm6 an6 cd6 ct6), sl6⟩) (c6 : PySem.W.codeIn K cd6 "names_in" = true) (k6 : PySem.W.keepIn K (.ref f6) = true)
    (a7 : PySem.W.nsIn K mainGlobals "first_told" = some (some (.ref f7))) (l7 : K.lookup f7 = some ⟨oc7, od7, .func (PySem.W.fnOf "first_told" "first_told" (defArgs sfirst_told) (defBody sfirst_told) (defScope sfirst_told) .none kV7 dc7 pm7 an7 cd7 ct7), sl7⟩) (c7 : PySem.W.codeIn K cd7 "first_told" = true) (k7 : PySem.W.keepIn K (.ref f7) = true)
    (a8 : PySem.W.nsIn K mainGlobals "second_told" = some (some (.ref f8))) (l8 : K.lookup f8 = some ⟨oc8, od8, .func (PySem.W.fnOf "second_told" "second_told" (defArgs ssecond_told) (defBody ssecond_told) (defScope ssecond_told) .none kV8 dc8 pm8 an8 cd8 ct8), sl8⟩) (c8 : PySem.W.codeIn K cd8 "second_told" = true) (k8 : PySem.W.keepIn K (.ref f8) = true)
    (a9 : PySem.W.nsIn K mainGlobals "_law_deck" = some (some (.ref f9))) (l9 : K.lookup f9 = some ⟨oc9, od9, .func (PySem.W.fnOf "_law_deck" "_law_deck" (defArgs s_law_deck) (defBody s_law_deck) (defScope s_law_deck) .none kV9 dc9 pm9 an9 cd9 ct9), sl9⟩) (c9 : PySem.W.codeIn K cd9 "_law_deck" = true) (k9 : PySem.W.keepIn K (.ref f9) = true)
    (a10 : PySem.W.nsIn K mainGlobals "_law_take" = some (some (.ref f10))) (l10 : K.lookup f10 = some ⟨oc10, od10, .func (PySem.W.fnOf "_law_take" "_law_take" (defArgs s_law_take) (defBody s_law_take) (defScope s_law_take) .none kV10 dc10 pm10 an10 cd10 ct10), sl10⟩) (c10 : PySem.W.codeIn K cd10 "_law_take" = true) (k10 : PySem.W.keepIn K (.ref f10) = true)
    (a11 : PySem.W.nsIn K mainGlobals "_law_pick" = some (some (.ref f11))) (l11 : K.lookup f11 = some ⟨oc11, od11, .func (PySem.W.fnOf "_law_pick" "_law_pick" (defArgs s_law_pick) (defBody s_law_pick) (defScope s_law_pick) .none kV11 dc11 pm11 an11 cd11 ct11), sl11⟩) (c11 : PySem.W.codeIn K cd11 "_law_pick" = true) (k11 : PySem.W.keepIn K (.ref f11) = true)
    (a12 : PySem.W.nsIn K mainGlobals "_law_mixed" = some (some (.ref f12))) (l12 : K.lookup f12 = some ⟨oc12, od12, .func (PySem.W.fnOf "_law_mixed" "_law_mixed" (defArgs s_law_mixed) (defBody s_law_mixed) (defScope s_law_mixed) .none kV12 dc12 pm12 an12 cd12 ct12), sl12⟩) (c12 : PySem.W.codeIn K cd12 "_law_mixed" = true) (k12 : PySem.W.keepIn K (.ref f12) = true)
    (a13 : PySem.W.nsIn K mainGlobals "_law_table" = some (some (.ref f13))) (l13 : K.lookup f13 = some ⟨oc13, od13, .func (PySem.W.fnOf "_law_table" "_law_table" (defArgs s_law_table) (defBody s_law_table) (defScope s_law_table) .none kV13 dc13 pm13 an13 cd13 ct13), sl13⟩) (c13 : PySem.W.codeIn K cd13 "_law_table" = true) (k13 : PySem.W.keepIn K (.ref f13) = true)
    (a14 : PySem.W.nsIn K mainGlobals "_law_tells" = some (some (.ref f14))) (l14 : K.lookup f14 = some ⟨oc14, od14, .func (PySem.W.fnOf "_law_tells" "_law_tells" (defArgs s_law_tells) (defBody s_law_tells) (defScope s_law_tells) .none kV14 dc14 pm14 an14 cd14 ct14), sl14⟩) (c14 : PySem.W.codeIn K cd14 "_law_tells" = true) (k14 : PySem.W.keepIn K (.ref f14) = true)
    (a15 : PySem.W.nsIn K mainGlobals "_law_formula" = some (some (.ref f15))) (l15 : K.lookup f15 = some ⟨oc15, od15, .func (PySem.W.fnOf "_law_formula" "_law_formula" (defArgs s_law_formula) (defBody s_law_formula) (defScope s_law_formula) .none kV15 dc15 pm15 an15 cd15 ct15), sl15⟩) (c15 : PySem.W.codeIn K cd15 "_law_formula" = true) (k15 : PySem.W.keepIn K (.ref f15) = true)
    (a16 : PySem.W.nsIn K mainGlobals "_law_names_in" = some (some (.ref f16))) (l16 : K.lookup f16 = some ⟨oc16, od16, .func (PySem.W.fnOf "_law_names_in" "_law_names_in" (defArgs s_law_names_in) (defBody s_law_names_in) (defScope s_law_names_in) .none kV16 dc16 pm16 an16 cd16 ct16), sl16⟩) (c16 : PySem.W.codeIn K cd16 "_law_names_in" = true) (k16 : PySem.W.keepIn K (.ref f16) = true)
    (a17 : PySem.W.nsIn K mainGlobals "_law_told" = some (some (.ref f17))) (l17 : K.lookup f17 = some ⟨oc17, od17, .func (PySem.W.fnOf "_law_told" "_law_told" (defArgs s_law_told) (defBody s_law_told) (defScope s_law_told) .none kV17 dc17 pm17 an17 cd17 ct17), sl17⟩) (c17 : PySem.W.codeIn K cd17 "_law_told" = true) (k17 : PySem.W.keepIn K (.ref f17) = true)
    (a18 : PySem.W.nsIn K mainGlobals "_law_chain" = some (some (.ref f18))) (l18 : K.lookup f18 = some ⟨oc18, od18, .func (PySem.W.fnOf "_law_chain" "_law_chain" (defArgs s_law_chain) (defBody s_law_chain) (defScope s_law_chain) .none kV18 dc18 pm18 an18 cd18 ct18), sl18⟩) (c18 : PySem.W.codeIn K cd18 "_law_chain" = true) (k18 : PySem.W.keepIn K (.ref f18) = true)
    (a19 : PySem.W.nsIn K mainGlobals "law" = some (some (.ref f19))) (l19 : K.lookup f19 = some ⟨oc19, od19, .func (PySem.W.fnOf "law" "law" (defArgs slaw) (defBody slaw) (defScope slaw) .none kV19 dc19 pm19 an19 cd19 ct19), sl19⟩) (c19 : PySem.W.codeIn K cd19 "law" = true) (k19 : PySem.W.keepIn K (.ref f19) = true)
    (z0 : PySem.W.nsIn K mainGlobals "isinstance" = some none)
    (z1 : PySem.W.nsIn K mainGlobals "int" = some none)
    (z2 : PySem.W.nsIn K mainGlobals "bool" = some none)
    (z3 : PySem.W.nsIn K mainGlobals "tuple" = some none)
    (z4 : PySem.W.nsIn K mainGlobals "len" = some none)
    (z5 : PySem.W.nsIn K mainGlobals "abs" = some none)
    (z6 : PySem.W.nsIn K mainGlobals "range" = some none)
    (z7 : PySem.W.nsIn K mainGlobals "repr" = some none)
    (z8 : PySem.W.nsIn K mainGlobals "list" = some none)
    (z9 : PySem.W.nsIn K mainGlobals "sorted" = some none)
    (z10 : PySem.W.nsIn K mainGlobals "ValueError" = some none)
    (xa1 : PySem.W.nsIn K mainGlobals "NotOnce" = some (some (.ref C1)))
    (xl1 : K.lookup C1 = some (excClassObj xn1 xq1 C1 xN1 xb1 [.ref CT, .type "ValueError", .type "Exception", .type "BaseException", .type "object"] true xs1 xu1 xv1 xc1 xd1 xm10 xm11 xm12 xm13 xm15 "ValueError.__new__"))
    (xsa1 : PySem.W.findIn K (.ref C1) "__setattr__" = some (some (.builtin "object.__setattr__"))) (xga1 : PySem.W.findIn K (.ref C1) "__getattribute__" = some (some (.builtin "BaseException.__getattribute__"))) (xgg1 : PySem.W.findIn K (.ref C1) "__getattr__" = some none) (xnb1 : PySem.W.findIn K (.ref C1) "name" = some none)
    (xi1 : PySem.W.findIn K (.ref C1) "__init__" = some (some (.ref I1))) (xt1 : PySem.W.typeIn K (.ref I1) = some (.type "function"))
    (xf1 : K.lookup I1 = some ⟨yo1, yd1, .func (PySem.W.fnOf "__init__" "NotOnce.__init__" (PySem.NmX.iA p11 p12) (PySem.NmX.iB q11 q12 q13 q14) PySem.NmX.iS .none .none yc1 ym1 ya1 yv1 yt1), ys1⟩) (xc_1 : PySem.W.codeIn K yv1 "NotOnce.__init__" = true)
    (xk1 : PySem.W.keepIn K (.ref C1) = true) (xe1 : PySem.W.subIn K (.ref C1) (.type "BaseException") = some true) (xy1 : PySem.W.typeIn K (.ref C1) = some (.type "type")) (xh1 : PySem.W.hasDictIn K C1 = true) (xo1 : PySem.W.isClsIn K C1 = true) (xx1 : PySem.W.subIn K (.ref C1) (.ref C1) = some true)
    (xw1 : PySem.W.findIn K (.ref C1) "__class__" = some (some (.builtin "object.__class__"))) (xr1 : PySem.W.mroIn K C1 (.type "object") = some true) (xT1 : PySem.W.subIn K (.ref C1) (.ref CT) = some true) (xV1 : PySem.W.subIn K (.ref C1) (.type "ValueError") = some true)
    (xa2 : PySem.W.nsIn K mainGlobals "Taken" = some (some (.ref C2)))
    (xl2 : K.lookup C2 = some (excClassObj xn2 xq2 C2 xN2 xb2 [.ref CT, .type "ValueError", .type "Exception", .type "BaseException", .type "object"] true xs2 xu2 xv2 xc2 xd2 xm20 xm21 xm22 xm23 xm25 "ValueError.__new__"))
    (xsa2 : PySem.W.findIn K (.ref C2) "__setattr__" = some (some (.builtin "object.__setattr__"))) (xga2 : PySem.W.findIn K (.ref C2) "__getattribute__" = some (some (.builtin "BaseException.__getattribute__"))) (xgg2 : PySem.W.findIn K (.ref C2) "__getattr__" = some none) (xnb2 : PySem.W.findIn K (.ref C2) "name" = some none)
    (xi2 : PySem.W.findIn K (.ref C2) "__init__" = some (some (.ref I2))) (xt2 : PySem.W.typeIn K (.ref I2) = some (.type "function"))
    (xf2 : K.lookup I2 = some ⟨yo2, yd2, .func (PySem.W.fnOf "__init__" "Taken.__init__" (PySem.NmX.iA p21 p22) (PySem.NmX.iB q21 q22 q23 q24) PySem.NmX.iS .none .none yc2 ym2 ya2 yv2 yt2), ys2⟩) (xc_2 : PySem.W.codeIn K yv2 "Taken.__init__" = true)
    (xk2 : PySem.W.keepIn K (.ref C2) = true) (xe2 : PySem.W.subIn K (.ref C2) (.type "BaseException") = some true) (xy2 : PySem.W.typeIn K (.ref C2) = some (.type "type")) (xh2 : PySem.W.hasDictIn K C2 = true) (xo2 : PySem.W.isClsIn K C2 = true) (xx2 : PySem.W.subIn K (.ref C2) (.ref C2) = some true)
    (xw2 : PySem.W.findIn K (.ref C2) "__class__" = some (some (.builtin "object.__class__"))) (xr2 : PySem.W.mroIn K C2 (.type "object") = some true) (xT2 : PySem.W.subIn K (.ref C2) (.ref CT) = some true) (xV2 : PySem.W.subIn K (.ref C2) (.type "ValueError") = some true)
    (ta : PySem.W.nsIn K mainGlobals "TableError" = some (some (.ref CT))) (to : PySem.W.isClsIn K CT = true) (ty : PySem.W.typeIn K (.ref CT) = some (.type "type"))
    (gn : PySem.W.specialIn K (.builtin "object.__class__") "__get__" = some (some (.builtin "getset_descriptor.__get__"))) (gt : PySem.W.takesIn K (.builtin "object.__class__") = some true) (x21 : PySem.W.subIn K (.ref C2) (.ref C1) = some false)
    : ∃ fd : FuncData, (∀ (s : Shared) (v : Value), BindsTo s fd ⟨[v], []⟩ [("_law_script", v)]) ∧ ∀ base : Heap, K.In base → base.Ns mainGlobals mg → (∃ o, base.get? sysModules = some o) → FnG l.prog w K mg base CX0 25 fa fd ["_law_script"] (spLaw K) := by
  have e := hfa.symm.trans (PySem.W.mg_of X G a19)
  cases e
  have D1 : DefAt K mg "is_whole" sis_whole ["value"] := def_mk (PySem.W.mg_of X G a1) l1 c1 k1 fun _ _ _ _ _ _ us hl => match us, hl with | [_], _ => rfl
  have D2 : DefAt K mg "is_tuple" sis_tuple ["value", "many"] := def_mk (PySem.W.mg_of X G a2) l2 c2 k2 fun _ _ _ _ _ _ us hl => match us, hl with | [_, _], _ => rfl
  have D3 : DefAt K mg "size" ssize ["formula"] := def_mk (PySem.W.mg_of X G a3) l3 c3 k3 fun _ _ _ _ _ _ us hl => match us, hl with | [_], _ => rfl
  have D4 : DefAt K mg "solved" ssolved ["formula", "name", "out"] := def_mk (PySem.W.mg_of X G a4) l4 c4 k4 fun _ _ _ _ _ _ us hl => match us, hl with | [_, _, _], _ => rfl
  have D5 : DefAt K mg "parts" sparts ["value"] := def_mk (PySem.W.mg_of X G a5) l5 c5 k5 fun _ _ _ _ _ _ us hl => match us, hl with | [_], _ => rfl
  have D6 : DefAt K mg "names_in" snames_in ["formula"] := def_mk (PySem.W.mg_of X G a6) l6 c6 k6 fun _ _ _ _ _ _ us hl => match us, hl with | [_], _ => rfl
  have D7 : DefAt K mg "first_told" sfirst_told ["word", "second", "told"] := def_mk (PySem.W.mg_of X G a7) l7 c7 k7 fun _ _ _ _ _ _ us hl => match us, hl with | [_, _, _], _ => rfl
  have D8 : DefAt K mg "second_told" ssecond_told ["word", "first", "told"] := def_mk (PySem.W.mg_of X G a8) l8 c8 k8 fun _ _ _ _ _ _ us hl => match us, hl with | [_, _, _], _ => rfl
  have D9 : DefAt K mg "_law_deck" s_law_deck ["_law_script"] := def_mk (PySem.W.mg_of X G a9) l9 c9 k9 fun _ _ _ _ _ _ us hl => match us, hl with | [_], _ => rfl
  have D10 : DefAt K mg "_law_take" s_law_take ["_law_deck_here", "_law_many"] := def_mk (PySem.W.mg_of X G a10) l10 c10 k10 fun _ _ _ _ _ _ us hl => match us, hl with | [_, _], _ => rfl
  have D11 : DefAt K mg "_law_pick" s_law_pick ["_law_deck_here", "_law_some"] := def_mk (PySem.W.mg_of X G a11) l11 c11 k11 fun _ _ _ _ _ _ us hl => match us, hl with | [_, _], _ => rfl
  have D12 : DefAt K mg "_law_mixed" s_law_mixed ["_law_deck_here", "_law_many"] := def_mk (PySem.W.mg_of X G a12) l12 c12 k12 fun _ _ _ _ _ _ us hl => match us, hl with | [_, _], _ => rfl
  have D13 : DefAt K mg "_law_table" s_law_table ["_law_deck_here", "_law_many"] := def_mk (PySem.W.mg_of X G a13) l13 c13 k13 fun _ _ _ _ _ _ us hl => match us, hl with | [_, _], _ => rfl
  have D14 : DefAt K mg "_law_tells" s_law_tells ["_law_table_here", "_law_things", "_law_formula_here"] := def_mk (PySem.W.mg_of X G a14) l14 c14 k14 fun _ _ _ _ _ _ us hl => match us, hl with | [_, _, _], _ => rfl
  have D15 : DefAt K mg "_law_formula" s_law_formula ["_law_deck_here", "_law_names", "_law_deep"] := def_mk (PySem.W.mg_of X G a15) l15 c15 k15 fun _ _ _ _ _ _ us hl => match us, hl with | [_, _, _], _ => rfl
  have D16 : DefAt K mg "_law_names_in" s_law_names_in ["_law_formula_here"] := def_mk (PySem.W.mg_of X G a16) l16 c16 k16 fun _ _ _ _ _ _ us hl => match us, hl with | [_], _ => rfl
  have D17 : DefAt K mg "_law_told" s_law_told ["_law_formula_here", "_law_name", "_law_out"] := def_mk (PySem.W.mg_of X G a17) l17 c17 k17 fun _ _ _ _ _ _ us hl => match us, hl with | [_, _, _], _ => rfl
  have D18 : DefAt K mg "_law_chain" s_law_chain ["_law_deck_here", "_law_names"] := def_mk (PySem.W.mg_of X G a18) l18 c18 k18 fun _ _ _ _ _ _ us hl => match us, hl with | [_, _], _ => rfl
  have b_isinstance := PySem.W.mg_none_of X G z0
  have b_int := PySem.W.mg_none_of X G z1
  have b_bool := PySem.W.mg_none_of X G z2
  have b_tuple := PySem.W.mg_none_of X G z3
  have b_len := PySem.W.mg_none_of X G z4
  have b_abs := PySem.W.mg_none_of X G z5
  have b_range := PySem.W.mg_none_of X G z6
  have b_repr := PySem.W.mg_none_of X G z7
  have b_list := PySem.W.mg_none_of X G z8
  have b_sorted := PySem.W.mg_none_of X G z9
  have b_ValueError := PySem.W.mg_none_of X G z10
  have T1 : PySem.NmX.NmTxt K mg "NotOnce" "NotOnce.__init__" C1 I1 := { gC := PySem.W.mg_of X G xa1, cls := ⟨xn1, xq1, xN1, xb1, _, xs1, xu1, xv1, xc1, xd1, xm10, xm11, xm12, xm13, xm15, xl1, by rfl⟩, sa := xsa1, ga := xga1, gg := xgg1, noN := xnb1, iC := xi1, tC := xt1, kC := xk1, exC := xe1, tyC := xy1, hdC := xh1, te := exm_is xe1 xo1 xy1 xx1, fn := ⟨_, _, _, _, _, _, _, _, _, _, _, _, _, _, xf1, xc_1⟩ }
  have E1 : ExcD K C1 := ⟨xo1, xga1, xgg1, xe1, xw1, gn, gt, xr1⟩
  have kA1 := kit_ref to ty xT1
  have kB1 := kit_type (T := "ValueError") (by decide +kernel) xV1
  have T2 : PySem.NmX.NmTxt K mg "Taken" "Taken.__init__" C2 I2 := { gC := PySem.W.mg_of X G xa2, cls := ⟨xn2, xq2, xN2, xb2, _, xs2, xu2, xv2, xc2, xd2, xm20, xm21, xm22, xm23, xm25, xl2, by rfl⟩, sa := xsa2, ga := xga2, gg := xgg2, noN := xnb2, iC := xi2, tC := xt2, kC := xk2, exC := xe2, tyC := xy2, hdC := xh2, te := exm_is xe2 xo2 xy2 xx2, fn := ⟨_, _, _, _, _, _, _, _, _, _, _, _, _, _, xf2, xc_2⟩ }
  have E2 : ExcD K C2 := ⟨xo2, xga2, xgg2, xe2, xw2, gn, gt, xr2⟩
  have kA2 := kit_ref to ty xT2
  have kB2 := kit_type (T := "ValueError") (by decide +kernel) xV2
  have FL := fun_mk (st := slaw) l19 c19 k19
  refine ⟨PySem.W.fnOf "law" "law" (defArgs slaw) (defBody slaw) (defScope slaw) .none kV19 dc19 pm19 an19 cd19 ct19, fun s v => .of_eq rfl, fun base _ _ hsys => ?_⟩
  have c1 := ok_is_whole (P := l.prog) (w := w) (base := base) D1 b_isinstance b_int b_bool
  have c2 := ok_is_tuple (P := l.prog) (w := w) (base := base) D2 b_isinstance b_tuple b_len
  have c3 := ok_parts D5 c2
  have c4 := ok_size D3 c3 b_len
  have c5 := ok_names_in D6 c3 c1
  have c6 := ok_first_told (P := l.prog) (w := w) (base := base) D7
  have c7 := ok_second_told (P := l.prog) (w := w) (base := base) D8
  have c8 := ok_solved D4 T1 T2 c5 c1 c6 c7
  have d1 := ok_bag (P := l.prog) (w := w) (base := base) D9 b_len b_abs b_int
  have d2 := ok_draw (P := l.prog) (w := w) (base := base) D10 b_int
  have d3 := ok_pick D11 d2 b_len
  have d4 := ok_mixed D12 d2 b_len b_list b_range
  have d5 := ok_table D13 d2 d4 b_int b_range b_tuple
  have d6 := ok_tells (P := l.prog) (w := w) (base := base) D14 b_isinstance b_int 20
  have d7 := ok_formula D15 d3 d2 4
  have d8 := ok_names_inL (P := l.prog) (w := w) (base := base) D16 b_isinstance b_int 20
  have d9 := ok_told D17 T1 T2 E1 E2 c8 b_isinstance b_ValueError (PySem.W.mg_of X G ta) kA1 kB1 kA2 kB2 (exm_is xe1 xo1 xy1 x21)
  have d10 := ok_chain D18 d3 d2 b_range
  exact ok_law FL hsys d1 d2 d7 c4 d10 d8 d9 d5 d6 b_range b_repr b_sorted b_len
end K42
open PySem PySem.W PyProof.Rows
set_option maxHeartbeats 0 in
theorem PySem.Challenge.cw_solvedbothsides_k42_whole_formulas_solve_holds : PySem.Challenge.rw_solvedbothsides_k42_whole_formulas_solve.Holds := by
  w_on; o_law; k_head; (case hw => w_witness2)
  k_fill
  refine VK.walk_g (l := PySem.Challenge.rw_solvedbothsides_k42_whole_formulas_solve) (n := 63) (k := 25) (x := "_law_script") (sp := fun w => K42.spLaw _) (by decide +kernel) rfl (by decide) rfl ⟨rfl, by decide, by decide⟩ (fun w h Y => PySem.W.kIn_of Y) ?F (fun _ H a ns hl _ _ hS => ⟨a, ns, rfl, hS, hl, fun _ => rfl⟩)
  case F =>
    intro w mg fa h KX G hmg
    refine' K42.all_mk KX G hmg ?a1 ?l1 ?c1 ?k1 ?a2 ?l2 ?c2 ?k2 ?a3 ?l3 ?c3 ?k3 ?a4 ?l4 ?c4 ?k4 ?a5 ?l5 ?c5 ?k5 ?a6 ?l6 ?c6 ?k6 ?a7 ?l7 ?c7 ?k7 ?a8 ?l8 ?c8 ?k8 ?a9 ?l9 ?c9 ?k9 ?a10 ?l10 ?c10 ?k10 ?a11 ?l11 ?c11 ?k11 ?a12 ?l12 ?c12 ?k12 ?a13 ?l13 ?c13 ?k13 ?a14 ?l14 ?c14 ?k14 ?a15 ?l15 ?c15 ?k15 ?a16 ?l16 ?c16 ?k16 ?a17 ?l17 ?c17 ?k17 ?a18 ?l18 ?c18 ?k18 ?a19 ?l19 ?c19 ?k19 ?z0 ?z1 ?z2 ?z3 ?z4 ?z5 ?z6 ?z7 ?z8 ?z9 ?z10 ?xa1 ?xl1 ?xsa1 ?xga1 ?xgg1 ?xnb1 ?xi1 ?xt1 ?xf1 ?xc_1 ?xk1 ?xe1 ?xy1 ?xh1 ?xo1 ?xx1 ?xw1 ?xr1 ?xT1 ?xV1 ?xa2 ?xl2 ?xsa2 ?xga2 ?xgg2 ?xnb2 ?xi2 ?xt2 ?xf2 ?xc_2 ?xk2 ?xe2 ?xy2 ?xh2 ?xo2 ?xx2 ?xw2 ?xr2 ?xT2 ?xV2 ?ta ?to ?ty ?gn ?gt ?x21
    (case a1 => k_is); (case l1 => k_is); (case c1 => k_is); (case k1 => k_is); (case a2 => k_is); (case l2 => k_is); (case c2 => k_is); (case k2 => k_is); (case a3 => k_is); (case l3 => k_is); (case c3 => k_is); (case k3 => k_is); (case a4 => k_is); (case l4 => k_is); (case c4 => k_is); (case k4 => k_is); (case a5 => k_is); (case l5 => k_is); (case c5 => k_is); (case k5 => k_is); (case a6 => k_is); (case l6 => k_is); (case c6 => k_is); (case k6 => k_is); (case a7 => k_is); (case l7 => k_is); (case c7 => k_is); (case k7 => k_is); (case a8 => k_is); (case l8 => k_is); (case c8 => k_is); (case k8 => k_is); (case a9 => k_is); (case l9 => k_is); (case c9 => k_is); (case k9 => k_is); (case a10 => k_is); (case l10 => k_is); (case c10 => k_is); (case k10 => k_is); (case a11 => k_is); (case l11 => k_is); (case c11 => k_is); (case k11 => k_is); (case a12 => k_is); (case l12 => k_is); (case c12 => k_is); (case k12 => k_is); (case a13 => k_is); (case l13 => k_is); (case c13 => k_is); (case k13 => k_is); (case a14 => k_is); (case l14 => k_is); (case c14 => k_is); (case k14 => k_is); (case a15 => k_is); (case l15 => k_is); (case c15 => k_is); (case k15 => k_is); (case a16 => k_is); (case l16 => k_is); (case c16 => k_is); (case k16 => k_is); (case a17 => k_is); (case l17 => k_is); (case c17 => k_is); (case k17 => k_is); (case a18 => k_is); (case l18 => k_is); (case c18 => k_is); (case k18 => k_is); (case a19 => k_is); (case l19 => k_is); (case c19 => k_is); (case k19 => k_is); (case z0 => k_is); (case z1 => k_is); (case z2 => k_is); (case z3 => k_is); (case z4 => k_is); (case z5 => k_is); (case z6 => k_is); (case z7 => k_is); (case z8 => k_is); (case z9 => k_is); (case z10 => k_is); (case xa1 => k_is); (case xl1 => k_is); (case xsa1 => k_is); (case xga1 => k_is); (case xgg1 => k_is); (case xnb1 => k_is); (case xi1 => k_is); (case xt1 => k_is); (case xf1 => k_is); (case xc_1 => k_is); (case xk1 => k_is); (case xe1 => k_is); (case xy1 => k_is); (case xh1 => k_is); (case xo1 => k_is); (case xx1 => k_is); (case xw1 => k_is); (case xr1 => k_is); (case xT1 => k_is); (case xV1 => k_is); (case xa2 => k_is); (case xl2 => k_is); (case xsa2 => k_is); (case xga2 => k_is); (case xgg2 => k_is); (case xnb2 => k_is); (case xi2 => k_is); (case xt2 => k_is); (case xf2 => k_is); (case xc_2 => k_is); (case xk2 => k_is); (case xe2 => k_is); (case xy2 => k_is); (case xh2 => k_is); (case xo2 => k_is); (case xx2 => k_is); (case xw2 => k_is); (case xr2 => k_is); (case xT2 => k_is); (case xV2 => k_is); (case ta => k_is); (case to => k_is); (case ty => k_is); (case gn => k_is); (case gt => k_is); (case x21 => k_is)
