import PyProof.Rows.All
import Wide.All
import OpenK.AllK
import Wide.FinOn
import HandS.ForMost
import HandS.Exc
import HandS.ExcOwn
import HandS.TryOnly
import HandS.WordsExc
import HandS.IsInst
import HandS.TupAny
import HandS.TupMul
import HandS.Wide
import HandS.WideMore
import HandS.Flow
import HandS.Style
import HandS.Walk
import KE.KExcSuper
import PyProof.ReprReads
import PyProof.ReprRoads
import KE.GoesEnum
import KE.GoesMore
import HandS.Iter
import KE.KEqSeq
import HandS.Conv
import PySem.Challenge.RW_oftenenough_k01_whole_plans_judged
set_option Elab.async false
set_option linter.all false
set_option maxRecDepth 100000
set_option maxHeartbeats 4000000
namespace Gd
open PySem PySem.Spec PyProof.Rows L2

/-! ### the promise of a def around which no repr is under way -/
structure FnG (pr : Program) (w : World) (K : PySem.W.Frag) (mg : Str → Option Value) (base : Heap) (cx : CXT) (k : Nat) (f : Addr)
    (fd : FuncData) (ps : List Str) (sp : Sp) : Prop where
  len : ∀ vs H Q E, sp vs H Q E → vs.length = ps.length
  run : ∀ (A : Around) (outer : List Env) (s : Shared) (H : Hp) (args : Args) (us : List Value) (vs : List V) (Q : VK) (E : XK),
    A.guards = some [] → Room k A → Env0 pr w K mg base A outer s H → BindsTo s fd args (ps.zip us) → Vals vs us → sp vs H Q E →
    codeAny (model pr w) A (.call (.ref f) args) (CR cx outer pr w H s Q E) s

section
variable {pr : Program} {w : World} {K : PySem.W.Frag} {mg : Str → Option Value} {base : Heap}

theorem fnG_of {cx : CXT} {k : Nat} {f : Addr} {nm ql : Str} {pa : Arguments} {bd : List Stmt} {sc : Scope} {dV kV doc pm cdv ct oc : Value}
    {an od : Option Addr} {osl : Array (Option Value)} {N ps : List Str} {sp : Sp}
    (lk : K.lookup f = some ⟨oc, od, .func (PySem.W.fnOf nm ql pa bd sc dV kV doc pm an cdv ct), osl⟩)
    (hcd : PySem.W.codeIn K cdv ql = true) (S : FnScope N ps sc) (len : ∀ vs H Q E, sp vs H Q E → vs.length = ps.length)
    (hbody : ∀ (A : Around) (outer : List Env) (s : Shared) (H : Hp) (vs : List V) (Q : VK) (E : XK), A.guards = some [] →
      Room k (A.deeper (envOfC ql sc s.heap.objs.size f cdv)) → sp vs H Q E →
      ∃ t, PSs (cxOf cx pr w K mg base N ql sc f cdv A outer s H E) bd t ∧ t { nx := fun _ H' => Q .non H', rt := Q } (start N vs) H) :
    FnG pr w K mg base cx (k + 1) f (PySem.W.fnOf nm ql pa bd sc dV kV doc pm an cdv ct) ps sp := by
  constructor
  · exact len
  · intro A outer s H args us vs Q E gA room e0 bind rel hsp
    have el := len _ _ _ _ hsp
    have inK : K.In s.heap := e0.mod.kin.keeps fun b o e => (e0.bs b o e).1
    have nolim : s.heap.NoLimit := e0.mod.nolimit.keeps fun b o e => (e0.bs b o e).1
    have kinds : ∀ y ∈ ps.zip us, sc.names.lookup y.1 = some .local ∨
        (sc.names.lookup y.1 = some .cell ∧ ((cellsFrom (s.heap.objs.size + 1) sc.names []).lookup y.1).isSome = true) := by
      rintro ⟨n, v⟩ hy
      rcases S.par n (List.of_mem_zip hy).1 with q | q
      · exact Or.inl q
      · exact Or.inr ⟨q, PySem.W.cellsFrom_some _ _ _ (Or.inl q)⟩
    apply codeAny_call_function room.depth (inK _ _ lk) rfl S.co S.gen rfl (PySem.W.codeRec_of inK hcd)
    apply bind
    refine wpAny_newFunctionEnv_cells S.kind kinds ?_
    intro env he s1 x
    subst he
    refine ⟨nolim.keeps x.toInCall.keep, codeAny_func ?_⟩
    obtain ⟨t, ht, hq⟩ := hbody A outer s H vs Q E gA (room.deeper _) hsp
    have J : Inv (cxOf cx pr w K mg base N ql sc f cdv A outer s H E) [] (start N vs) H s1 := inv_start S room.hd e0 el rel x
    refine wpAny_mono (ht.run [] s1 (start N vs) H _ J hq) ?_ (fun e s' hs => hs)
    intro fl s' hs
    cases fl with
    | ret u =>
      obtain ⟨v, σ', H', J', rv, q⟩ := hs
      exact ⟨v, H', J'.os, J'.bare, J'.base, J'.hok, rv, q⟩
    | next =>
      obtain ⟨σ', H', J', q⟩ := hs
      exact ⟨V.non, H', J'.os, J'.bare, J'.base, J'.hok, rfl, q⟩
    | brk => exact hs.choose_spec.choose_spec.2.elim
    | cont => exact hs.choose_spec.choose_spec.2.elim

/-- a def of the text, no exception leaves it -/
theorem okG {x ql : Str} {st : Stmt} {f : Addr} {fd : FuncData} {N ps : List Str} {k : Nat} {sp : Sp} (F : Fun K x ql st f fd)
    (S : FnScope N ps (defScope st)) (len : ∀ vs H Q E, sp vs H Q E → vs.length = ps.length)
    (hbody : ∀ (cdv : Value) (A : Around) (outer : List Env) (s : Shared) (H : Hp) (vs : List V) (Q : VK) (E : XK), A.guards = some [] →
      Room k (A.deeper (envOfC ql (defScope st) s.heap.objs.size f cdv)) → sp vs H Q E →
      ∃ t, PSs (cxOf CX0 pr w K mg base N ql (defScope st) f cdv A outer s H E).nox (defBody st) t ∧
        t { nx := fun _ H' => Q .non H', rt := Q } (start N vs) H) : FnG pr w K mg base CX0 (k + 1) f fd ps sp := by
  obtain ⟨oc, od, kV, doc, pm, an, cdv, ct, osl, rfl, lk, hcd⟩ := F.ex
  refine fnG_of lk hcd S len ?_
  intro A outer s H vs Q E gA hr hsp
  obtain ⟨t, h, q⟩ := hbody cdv A outer s H vs Q E gA hr hsp
  exact ⟨t, h.nox, q⟩
end

section
variable {X : Cx} {cx : CXT} {k : Nat} {f : Addr} {fd : FuncData} {ps : List Str} {sp : Sp} {dvs : List V} {ds : List Value} {E : XK} {x : Str}
  {p pos : Pos} {e : Expr} {es : List Expr} {t : TA}

theorem run_fnG {pins : List (Addr × Obj)} {σ : L2.St} {H : Hp} {s : Shared} {Q : VK} {us : List Value} {vs : List V}
    (F : FnG X.prog X.w X.K X.mg X.base cx k f fd ps sp) (gA : X.A.guards = some []) (hr : Room k X.A) (hb : Binds X.K fd ps ds) (hd : Vals dvs ds)
    (hx : Passes cx X E) (I : Inv X pins σ H s) (r : Vals vs us) (h : sp (vs ++ dvs) H Q E) :
    wpAny (model X.prog X.w) X.A (call (.ref f) us) (EP X pins σ Q) X.xe s := by
  have r2 := r.append hd
  have hl : (us ++ ds).length = ps.length := by
    rw [← r2.length]
    exact F.len _ _ _ _ h
  apply wpAny_call
  refine codeAny_mono (F.run X.A X.stack s H ⟨us, []⟩ (us ++ ds) (vs ++ dvs) Q E gA hr I.env0 (hb s us I.kIn hl) r2 h) ?_
  intro r s' hq
  cases r with
  | error e => exact hx pins σ H s e s' I hq
  | ok fl =>
    cases fl with
    | ret u => exact I.after hq
    | next => exact False.elim hq
    | brk => exact False.elim hq
    | cont => exact False.elim hq

theorem pe_callG (F : FnG X.prog X.w X.K X.mg X.base cx k f fd ps sp) (gA : X.A.guards = some []) (hr : Room k X.A) (hg : Gl X x)
    (hm : X.mg x = some (.ref f)) (hk : PySem.W.keepIn X.K (.ref f) = true) (hb : Binds X.K fd ps ds) (hd : Vals dvs ds) (hx : Passes cx X E)
    (ha : PA X (e :: es) t) (hdb : (x == ("__debug__" : Str)) = false := by decide)
    (he : starEach (e :: es) X.env = (false, eval e X.env) :: starEach es X.env := by rfl)
    (hpl : (backTo pos (starEach es X.env)).any (·.1) = false := by rfl) : PE X (.Call (.Name x p) (e :: es) [] pos) (tCall sp dvs E t) := by
  constructor
  intro pins s σ H Q I h
  apply wpAny_Call_Name_kw
  refine ld_glob I hg hm ?_ hdb
  exact PySem.W.callWith_K (h₀ := X.base) I.ok.mod.kin hk
    (thn (ha.run pos pins s σ H _ I h) fun us s1 ⟨vs, H1, I1, r, q⟩ => ⟨I1.kIn, run_fnG F gA hr hb hd hx I1 r q⟩) he hpl

theorem pe_call0G (F : FnG X.prog X.w X.K X.mg X.base cx k f fd ps sp) (gA : X.A.guards = some []) (hr : Room k X.A) (hg : Gl X x)
    (hm : X.mg x = some (.ref f)) (hk : PySem.W.keepIn X.K (.ref f) = true) (hb : Binds X.K fd ps ds) (hd : Vals dvs ds) (hx : Passes cx X E)
    (hdb : (x == ("__debug__" : Str)) = false := by decide) : PE X (.Call (.Name x p) [] [] pos) (tCall sp dvs E tNil) := by
  constructor
  intro pins s σ H Q I h
  apply wpAny_Call_Name_kw
  refine ld_glob I hg hm ?_ hdb
  exact PySem.W.callWith_K0 I.kIn hk (run_fnG (us := []) F gA hr hb hd hx I .nil h)
end

/-! ### data of the tracked heap, dicts too -/
def keyD : Key → PyData
  | .inl i => .int i
  | .inr x => .str x
mutual
inductive Da (H : Hp) : V → PyData → Prop
  | non : Da H .non .none
  | bl (b : Bool) : Da H (.bl b) (.bool b)
  | int (i : Int) : Da H (.int i) (.int i)
  | str (x : Str) : Da H (.str x) (.str x)
  | lst {a : Addr} {xs : List V} {ds : List PyData} : H a = some (.lst xs) → DaL H xs ds → Da H (.ref a) (.list ds)
  | tup {a : Addr} {xs : List V} {ds : List PyData} : H a = some (.tup xs) → DaL H xs ds → Da H (.ref a) (.tuple ds)
  | dic {a : Addr} {kvs : List (Key × V)} {ds : List PyData} : H a = some (.dK kvs) → DaL H (kvs.map (·.2)) ds →
      Da H (.ref a) (.dict ((kvs.map fun p => keyD p.1).zip ds))
inductive DaL (H : Hp) : List V → List PyData → Prop
  | nil : DaL H [] []
  | cons {v : V} {vs : List V} {d : PyData} {ds : List PyData} : Da H v d → DaL H vs ds → DaL H (v :: vs) (d :: ds)
end
mutual
theorem Da.mono {H H' : Hp} (k : ∀ b o, H b = some o → H' b = some o) : ∀ {v : V} {d : PyData}, Da H v d → Da H' v d
  | _, _, .non => .non
  | _, _, .bl b => .bl b
  | _, _, .int i => .int i
  | _, _, .str x => .str x
  | _, _, .lst h r => .lst (k _ _ h) (r.mono k)
  | _, _, .tup h r => .tup (k _ _ h) (r.mono k)
  | _, _, .dic h r => .dic (k _ _ h) (r.mono k)
theorem DaL.mono {H H' : Hp} (k : ∀ b o, H b = some o → H' b = some o) : ∀ {v : List V} {d : List PyData}, DaL H v d → DaL H' v d
  | _, _, .nil => .nil
  | _, _, .cons h r => .cons (h.mono k) (r.mono k)
end
theorem DaL.length {H : Hp} : ∀ {vs : List V} {ds : List PyData}, DaL H vs ds → vs.length = ds.length
  | _, _, .nil => rfl
  | _, _, .cons _ r => congrArg (· + 1) r.length
theorem keys_read {pr : Program} {w : World} {h : Heap} : ∀ {es : List DictEntry} {kvs : List (Key × Value)}, PySem.Pairs (mixKind pr w) es kvs →
    ReadsAll h (es.map (·.key)) (kvs.map fun p => keyD p.1) []
  | _, _, .nil => .nil
  | _, _, .cons (e := e) (kv := kv) hk _ r => by
    have hk' : keyIs kv.1 e.key = true := hk
    rcases keyIs_shape hk' with ⟨i, t, e1, e2⟩ | ⟨y, t, e1, e2⟩
    · have := ReadsAll.cons (as := []) (bs := []) (Reads.int (h := h) i t) (keys_read r)
      simpa [keyD, e1, e2] using this
    · have := ReadsAll.cons (as := []) (bs := []) (Reads.str (h := h) y t) (keys_read r)
      simpa [keyD, e1, e2] using this
theorem vals_of_pairs {pr : Program} {w : World} : ∀ {es : List DictEntry} {kvs : List (Key × Value)}, PySem.Pairs (mixKind pr w) es kvs → es.map (·.val) = kvs.map (·.2)
  | _, _, .nil => rfl
  | _, _, .cons _ hv r => by simp [hv, vals_of_pairs r]
theorem kv_keys : ∀ {kvs : List (Key × V)} {us : List (Key × Value)}, KV kvs us → (kvs.map fun p => keyD p.1) = us.map fun p => keyD p.1
  | _, _, .nil => rfl
  | _, _, .cons h r => by simp [h.1, kv_keys r]
theorem kv_vals : ∀ {kvs : List (Key × V)} {us : List (Key × Value)}, KV kvs us → Vals (kvs.map (·.2)) (us.map (·.2))
  | _, _, .nil => .nil
  | _, _, .cons h r => .cons h.2 (kv_vals r)
section
variable {X : Cx} {pins : List (Addr × Obj)} {σ : L2.St} {H : Hp} {s : Shared}
mutual
theorem Da.reads (I : Inv X pins σ H s) : ∀ {v : V} {d : PyData} {u : Value}, Da H v d → RelV v u → ∃ as, Reads s.heap u d as ∧ ∀ b ∈ as, H b ≠ none
  | _, _, _, .non, r => by cases r; exact ⟨[], .none, fun b h => nomatch h⟩
  | _, _, _, .bl b, r => by cases r; exact ⟨[], .bool b, fun b h => nomatch h⟩
  | _, _, _, .int i, r => by obtain ⟨t, rfl⟩ := r; exact ⟨[], .int i t, fun b h => nomatch h⟩
  | _, _, _, .str x, r => by obtain ⟨t, rfl⟩ := r; exact ⟨[], .str x t, fun b h => nomatch h⟩
  | _, _, _, .lst (a := a) h q, r => by
    cases r
    obtain ⟨its, rv, ⟨o, n, ho, hc, hd, _⟩, _⟩ := I.list (X := X) (xs := _) (a := a) (SqL.of h)
    obtain ⟨as, hr, hn⟩ := DaL.reads I q rv
    refine ⟨_, Reads.list ho hc (by first | exact hd | assumption) hr, ?_⟩
    intro b hb
    rcases List.mem_cons.mp hb with e | hb
    · rw [e, h]; exact Option.some_ne_none _
    · exact hn b hb
  | _, _, _, .tup (a := a) h q, r => by
    cases r
    obtain ⟨its, rv, ⟨o, ho, hc, n, hd⟩, _⟩ := I.tuple (X := X) (a := a) (SqT.of h)
    obtain ⟨as, hr, hn⟩ := DaL.reads I q rv
    exact ⟨_, Reads.tuple ho hc hd hr, hn⟩
  | _, _, _, .dic (a := a) (kvs := kvs) (ds := ds) h q, r => by
    cases r
    obtain ⟨_, _, us, kv, o, es, ep, ho, hx, hd, hk, hp, _⟩ := I.hok a _ h
    obtain ⟨as, hr, hn⟩ := DaL.reads I q (kv_vals kv)
    have hl : (kvs.map fun p => keyD p.1).length = ds.length := by
      rw [List.length_map, ← q.length, List.length_map]
    have r1 := keys_read (h := s.heap) hp
    rw [← kv_keys kv] at r1
    rw [← vals_of_pairs hp] at hr
    refine ⟨_, Reads.dict (as := []) (bs := as) ho hx.1 hd ?_ ?_, ?_⟩
    · rw [List.map_fst_zip (by rw [hl]; exact Nat.le_refl _)]; exact r1
    · rw [List.map_snd_zip (by rw [hl]; exact Nat.le_refl _)]; exact hr
    · intro b hb
      rcases List.mem_cons.mp hb with e | hb
      · rw [e, h]; exact Option.some_ne_none _
      · exact hn b (by simpa using hb)
theorem DaL.reads (I : Inv X pins σ H s) : ∀ {vs : List V} {ds : List PyData} {us : List Value}, DaL H vs ds → Vals vs us → ∃ as, ReadsAll s.heap us ds as ∧ ∀ b ∈ as, H b ≠ none
  | _, _, _, .nil, r => by cases r; exact ⟨[], .nil, fun b h => nomatch h⟩
  | _, _, _, .cons h q, r => by
    cases r with
    | cons r1 r2 =>
      obtain ⟨as, q1, n1⟩ := Da.reads I h r1
      obtain ⟨bs, q2, n2⟩ := DaL.reads I q r2
      exact ⟨_, .cons q1 q2, fun b hb => (List.mem_append.mp hb).elim (n1 b) (n2 b)⟩
end
end

/-! ### how much room a thing takes when it is shown -/
structure Sm (n k : Nat) (d : PyData) : Prop where
  sh : d.showable = true
  dp : d.depth ≤ k
  ln : d.shown.length ≤ n
theorem Sm.up {n k n' k' : Nat} {d : PyData} (h : Sm n k d) (h1 : n ≤ n') (h2 : k ≤ k') : Sm n' k' d := ⟨h.sh, Nat.le_trans h.dp h2, Nat.le_trans h.ln h1⟩
theorem sm_none : Sm 4 0 .none := ⟨rfl, Nat.le_refl _, by decide +kernel⟩
theorem sm_bool (b : Bool) : Sm 5 0 (.bool b) := by
  cases b
  · exact ⟨rfl, Nat.le_refl _, by decide +kernel⟩
  · exact ⟨rfl, Nat.le_refl _, by decide +kernel⟩
theorem log_lt {i : Int} {k : Nat} (hk : 0 < k) (h : i.natAbs < 2 ^ k) : i.natAbs.log2 < k := by
  by_cases z : i.natAbs = 0
  · rw [z]; simpa using hk
  · exact (Nat.log2_lt z).mpr h
theorem sm_int {i : Int} (h : i.natAbs < 2 ^ 1920) : Sm 1921 0 (.int i) :=
  have h' := log_lt (by decide) h
  ⟨by show decide (i.natAbs.log2 < 1920) = true; exact decide_eq_true h', Nat.le_refl _, by
    show (PySem.Str.ofString (toString i)).length ≤ 1921
    exact int_text_len_1921 h'⟩
theorem sm_str {x : Str} {n : Nat} (h : (reprText x).length ≤ n) : Sm n 0 (.str x) := ⟨rfl, Nat.le_refl _, by simpa only [PyData.shown] using h⟩
structure SmL (n k : Nat) (ds : List PyData) : Prop where
  all : ∀ d ∈ ds, Sm n k d
theorem SmL.sh {n k : Nat} : ∀ {ds : List PyData}, SmL n k ds → PyData.showableAll ds = true
  | [], _ => rfl
  | d :: ds, h => by
    show (PyData.showable d && PyData.showableAll ds) = true
    rw [(h.all d List.mem_cons_self).sh, SmL.sh (n := n) (k := k) ⟨fun e he => h.all e (List.mem_cons_of_mem _ he)⟩]
    rfl
theorem SmL.dp {n k : Nat} : ∀ {ds : List PyData}, SmL n k ds → PyData.depthAll ds ≤ k
  | [], _ => Nat.zero_le _
  | d :: ds, h => by
    show max (PyData.depth d) (PyData.depthAll ds) ≤ k
    exact Nat.max_le.mpr ⟨(h.all d List.mem_cons_self).dp, SmL.dp (n := n) (k := k) ⟨fun e he => h.all e (List.mem_cons_of_mem _ he)⟩⟩
theorem SmL.ln {n k : Nat} : ∀ {ds : List PyData}, SmL n k ds → piled (PyData.shownAll ds) ≤ ds.length * (n + 2)
  | [], _ => Nat.zero_le _
  | d :: ds, h => by
    have ih := SmL.ln (n := n) (k := k) (ds := ds) ⟨fun e he => h.all e (List.mem_cons_of_mem _ he)⟩
    have hd := (h.all d List.mem_cons_self).ln
    show piled (PyData.shown d :: PyData.shownAll ds) ≤ (ds.length + 1) * (n + 2)
    rw [piled_cons, Nat.succ_mul]
    omega
theorem join_le (ts : List Str) : (Str.join ", " ts).length ≤ piled ts := by
  by_cases h : ts = []
  · subst h; exact Nat.zero_le _
  · have := join_length_add ts h
    omega
theorem shownAll_length : ∀ ds : List PyData, (PyData.shownAll ds).length = ds.length
  | [] => rfl
  | _ :: ds => congrArg (· + 1) (shownAll_length ds)
theorem textFrom_le : ∀ (ts : List Str) (acc : Str), (textFrom 0 acc ts).length ≤ acc.length + piled ts
  | [], acc => by show acc.length ≤ _; omega
  | t :: ts, acc => by
    have h := textFrom_length_pos ts 1 (acc ++ t) (by decide)
    have e : textFrom 0 acc (t :: ts) = textFrom 1 (acc ++ t) ts := rfl
    rw [e, h, strLen_append, piled_cons]
    omega
theorem sm_tup {n k : Nat} {ds : List PyData} (h : SmL n k ds) : Sm (ds.length * (n + 2) + 3) (k + 1) (.tuple ds) := by
  refine ⟨h.sh, ?_, ?_⟩
  · show PyData.depthAll ds + 1 ≤ k + 1
    have := h.dp
    omega
  · show (tupleText (PyData.shownAll ds)).length ≤ _
    have h1 := h.ln
    have h2 := join_le (PyData.shownAll ds)
    unfold tupleText
    rw [strLen_append, strLen_append]
    have e1 : (Str.ofString "(").length = 1 := by decide +kernel
    have e2 : (Str.ofString (if ((PyData.shownAll ds).length == 1) = true then ",)" else ")")).length ≤ 2 := by
      split <;> decide +kernel
    omega
theorem sm_lst {n k : Nat} {ds : List PyData} (h : SmL n k ds) : Sm (ds.length * (n + 2) + 3) (k + 1) (.list ds) := by
  refine ⟨h.sh, ?_, ?_⟩
  · show PyData.depthAll ds + 1 ≤ k + 1
    have := h.dp
    omega
  · show (listText (PyData.shownAll ds)).length ≤ _
    have h1 := h.ln
    have h2 := textFrom_le (PyData.shownAll ds) "["
    have e : (listText (PyData.shownAll ds)).length = (textFrom 0 "[" (PyData.shownAll ds)).length + 1 := by
      show (textFrom 0 "[" (PyData.shownAll ds) ++ "]").length = _
      rw [strLen_append]; rfl
    have e1 : (Str.ofString "[").length = 1 := by decide +kernel
    omega
/-- a dict of n entries -/
structure SmK (n k : Nat) (kvs : List (PyData × PyData)) : Prop where
  all : ∀ d ∈ kvs, Sm n k d.1 ∧ Sm n k d.2
theorem SmK.sh {n k : Nat} : ∀ {ds : List (PyData × PyData)}, SmK n k ds → PyData.showableKv ds = true
  | [], _ => rfl
  | d :: ds, h => by
    show (PyData.showable d.1 && PyData.showable d.2 && PyData.showableKv ds) = true
    rw [(h.all d List.mem_cons_self).1.sh, (h.all d List.mem_cons_self).2.sh, SmK.sh (n := n) (k := k) ⟨fun e he => h.all e (List.mem_cons_of_mem _ he)⟩]
    rfl
theorem SmK.dp {n k : Nat} : ∀ {ds : List (PyData × PyData)}, SmK n k ds → PyData.depthKv ds ≤ k
  | [], _ => Nat.zero_le _
  | d :: ds, h => by
    show max (max (PyData.depth d.1) (PyData.depth d.2)) (PyData.depthKv ds) ≤ k
    exact Nat.max_le.mpr ⟨Nat.max_le.mpr ⟨(h.all d List.mem_cons_self).1.dp, (h.all d List.mem_cons_self).2.dp⟩, SmK.dp (n := n) (k := k) ⟨fun e he => h.all e (List.mem_cons_of_mem _ he)⟩⟩
theorem SmK.ln {n k : Nat} : ∀ {ds : List (PyData × PyData)}, SmK n k ds → piled (PyData.shownKv ds) ≤ ds.length * (2 * n + 4)
  | [], _ => Nat.zero_le _
  | d :: ds, h => by
    have ih := SmK.ln (n := n) (k := k) (ds := ds) ⟨fun e he => h.all e (List.mem_cons_of_mem _ he)⟩
    have h1 := (h.all d List.mem_cons_self).1.ln
    have h2 := (h.all d List.mem_cons_self).2.ln
    show piled ((PyData.shown d.1 ++ ": " ++ PyData.shown d.2) :: PyData.shownKv ds) ≤ (ds.length + 1) * (2 * n + 4)
    have e1 : (Str.ofString ": ").length = 2 := by decide +kernel
    rw [piled_cons, Nat.succ_mul, strLen_append, strLen_append]
    omega
theorem sm_dic {n k : Nat} {ds : List (PyData × PyData)} (h : SmK n k ds) : Sm (ds.length * (2 * n + 4) + 2) (k + 1) (.dict ds) := by
  refine ⟨h.sh, ?_, ?_⟩
  · show PyData.depthKv ds + 1 ≤ k + 1
    have := h.dp
    omega
  · show (dictText (PyData.shownKv ds)).length ≤ _
    have h1 := h.ln
    have h2 := join_le (PyData.shownKv ds)
    unfold dictText
    rw [strLen_append, strLen_append]
    have e1 : (Str.ofString "{").length = 1 := by decide +kernel
    have e2 : (Str.ofString "}").length = 1 := by decide +kernel
    omega

/-! ### repr -/
def rRepr : List V → Hp → VK → Prop := fun xs H Q => ∃ (v : V) (d : PyData), xs = [v] ∧ Da H v d ∧ Sm 16000000 30 d ∧ Q (.str d.shown) H
theorem call_repr {X : Cx} (gA : X.A.guards = some []) (hu : X.A.units + 64 < cLine) (hb : ∃ o, X.base.get? sysModules = some o) : CallR X (.builtin "repr") rRepr := by
  intro pins s σ H xs us Q I r h
  obtain ⟨v, d, rfl, hd, sm, q⟩ := h
  obtain ⟨u, rfl, ru⟩ : ∃ u, us = [u] ∧ RelV v u := by
    cases r with
    | cons r1 r2 => cases r2; exact ⟨_, rfl, r1⟩
  obtain ⟨as, hr, hn⟩ := hd.reads I ru
  have hz : d.shown.length ≤ sizeLine := Nat.le_trans sm.ln (by rw [sizeLine_eq]; decide)
  have hs : sysModules ∉ as := fun hm => by
    obtain ⟨o, ho⟩ := hb
    exact hn _ hm (I.bs _ _ ho).2
  have fin : ∀ (h' : Heap) (u : Tok) (tk : Nat), (∀ b o, s.heap.get? b = some o → h'.get? b = some o) →
      EP X pins σ Q (.str d.shown u) { s with heap := h', toks := tk } := fun h' u tk k => ⟨.str d.shown, H, I.kept k, ⟨_, rfl⟩, q⟩
  have hdp := sm.dp
  cases hr with
  | none => exact PySem.P.repr_of_none (fin s.heap _ _ fun _ _ e => e)
  | bool b =>
    refine PySem.P.repr_of_bool ?_
    cases b
    · exact fin s.heap _ _ fun _ _ e => e
    · exact fin s.heap _ _ fun _ _ e => e
  | int i t => exact PySem.P.repr_of_int (by simpa [PyData.showable] using sm.sh) (fin s.heap _ _ fun _ _ e => e)
  | str x t => exact PySem.P.repr_of_str (fin s.heap _ _ fun _ _ e => e) hz
  | list h1 h2 h3 h4 => exact repr_of_reads' (.list h1 h2 h3 h4) sm.sh (fun _ => hs) gA (by omega) (fun _ _ e => e) fin hz
  | tuple h1 h2 h3 h4 => exact repr_of_reads' (.tuple h1 h2 h3 h4) sm.sh (fun _ => hs) gA (by omega) (fun _ _ e => e) fin hz
  | dict h1 h2 h3 h4 h5 => exact repr_of_reads' (.dict h1 h2 h3 h4 h5) sm.sh (fun _ => hs) gA (by omega) (fun _ _ e => e) fin hz
end Gd
set_option Elab.async false
set_option linter.all false
set_option maxRecDepth 100000
set_option maxHeartbeats 4000000
/-! An exception class of the program's own, below others of its own over ValueError: __init__(self, f): super().__init__(txt); self.f = f -/
namespace PySem
namespace ExG
open PySem.W PySem.Calls PyProof.Rows PySem.HandSPX
structure Ps where
  a : Pos
  b : Pos
  q1 : Pos
  q2 : Pos
  q3 : Pos
  q4 : Pos
  q5 : Pos
  q6 : Pos
  r1 : Pos
  r2 : Pos
  r3 : Pos
  r4 : Pos
def eA (f : Str) (o : Ps) : Arguments :=
  { posonlyargs := [], args := [{ arg := "self", annotation := none, pos := o.a }, { arg := f, annotation := none, pos := o.b }], vararg := none,
    kwonlyargs := [], kw_defaults := [], kwarg := none, defaults := [] }
def eB (f txt : Str) (o : Ps) : List Stmt :=
  [.Expr (.Call (.Attribute (.Call (.Name "super" o.q1) [] [] o.q2) "__init__" o.q3) [.Constant (.str txt) 0 o.q4] [] o.q5) o.q6,
   .Assign [.Attribute (.Name "self" o.r1) f o.r2] (.Name f o.r3) o.r4]
def eS (f : Str) : Scope :=
  { kind := .function, names := [(PySem.Str.ofString "self", .local), (f, .local), (PySem.Str.ofString "__class__", .free), (PySem.Str.ofString "super", .globalImplicit)],
    isGenerator := false, isCoroutine := false, more := [] }
/-- what the written part says of the class x at C, its field f, and its __init__ at fI -/
structure ExTxt (pr : Program) (K : Frag) (mg : Str → Option Value) (x f txt : Str) (C fI : Addr) : Prop where
  gC : mg x = some (.ref C)
  cls : ∃ nm q N bs bm sn sub ab col dd k0 k1 k2 k3 k5, K.lookup C = some (excClassObj nm q C N bs bm true sn sub ab col dd k0 k1 k2 k3 k5 "ValueError.__new__") ∧ refsVE bm = true
  sa : findIn K (.ref C) "__setattr__" = some (some (.builtin "object.__setattr__"))
  ga : findIn K (.ref C) "__getattribute__" = some (some (.builtin "BaseException.__getattribute__"))
  gg : findIn K (.ref C) "__getattr__" = some none
  noN : findIn K (.ref C) f = some none
  iC : findIn K (.ref C) "__init__" = some (some (.ref fI))
  tC : typeIn K (.ref fI) = some (.type "function")
  kC : keepIn K (.ref C) = true
  exC : subIn K (.ref C) (.type "BaseException") = some true
  tyC : typeIn K (.ref C) = some (.type "type")
  hdC : hasDictIn K C = true
  te : exmOne K (.ref C) (.ref C) = some true
  sup : ks_superIn K C C "__init__" = some (some (.builtin "ValueError.__init__"))
  subV : subIn K (.ref C) (.type "ValueError") = some true
  subm : mroIn K C (.ref C) = some true
  opq : nsIn K cStatics "thirdparty.any" = some none
  nos : nsIn K mainGlobals "super" = some none
  top : (pr.main.scope.names.lookup ("super" : Str)).isSome = false
  fn : ∃ (qual : Str) (oc : Value) (od : Option Addr) (doc pm : Value) (an : Option Addr) (cda : Addr) (ct : Value) (osl : Array (Option Value)) (cc : Addr) (o : Ps)
      (cl : Value) (cld : Option Addr) (csl : Array (Option Value)) (ccl : Value) (cdd : Option Addr) (vs : Array Value) (ccs : Array (Option Value)) (file : Str) (tf : Tok),
    K.lookup fI = some ⟨oc, od, .func (ksFn "__init__" qual (eA f o) (eB f txt o) (eS f) .none .none doc pm an (.ref cda) ct cc), osl⟩ ∧ codeIn K (.ref cda) qual = true ∧ (o.q3.endLine == o.q5.line) = true ∧
    K.lookup cc = some ⟨cl, cld, .cell (some (.ref C)), csl⟩ ∧ K.lookup cda = some ⟨ccl, cdd, .fields vs, ccs⟩ ∧ vs[2]? = some (.str file tf) ∧ ((pr.main.file : Str) == file) = true
  kf : (eS f).names.lookup f = some .local
  ks : (eS f).names.lookup (PySem.Str.ofString "super") = some .globalImplicit
  kc : (eS f).names.lookup (PySem.Str.ofString "__class__") = some .free
  fdb : (f == ("__debug__" : Str)) = false
  fse : (f == ("self" : Str)) = false
  bnd : ∀ (qual : Str) (o : Ps) (doc pm : Value) (an : Option Addr) (cd ct : Value) (cc : Addr) (u v : Value),
    bindArgs (ksFn "__init__" qual (eA f o) (eB f txt o) (eS f) .none .none doc pm an cd ct cc) ⟨[u, v], []⟩ = pure [(PySem.Str.ofString "self", u), (f, v)]

/-- what __init__ leaves of a fresh exception at x -/
structure Left (h h' : Heap) (x C dx t1 : Addr) (f : Str) (v : Value) : Prop where
  keep : ∀ b o, b ≠ x → h.get? b = some o → h'.get? b = some o
  obj : h'.get? x = some { cls := .ref C, dict := some dx, data := .fields #[.ref t1, .none, .none, .none, .bool false, .none] }
  dbig : h.objs.size ≤ dx
  dne : dx ≠ x
  ns : h'.Ns1 dx (fun y => if y = f then some v else none)

section
variable {prog : Program} {w : World} {A : Around} {E : Value → Shared → Prop} {R : Result → Shared → Prop} {s : Shared} {K : Frag} {mg : Str → Option Value} {C fI : Addr} {x f txt : Str}

theorem one_line {o : Expr} {name txt : Str} {apos pos cp : Pos} {env : Env} {k : Nat} (hl : (apos.endLine == pos.line) = true) :
    eval (.Call (.Attribute o name apos) [.Constant (.str txt) k cp] [] pos) env = (do
      let ov ← attributeBase o name env (eval o env)
      standAt apos.atName
      let (f, first) ← holding [ov] (getMethod ov name (do return (← importBound o env).getD true))
      callWith pos f first (backTo pos (starEach [.Constant (.str txt) k cp] env)) []) := by
  show (do
      let ov ← attributeBase o name env (eval o env)
      standAt apos.atName
      methodCall o name apos pos env ov (1 + 0) (backTo pos (starEach [.Constant (.str txt) k cp] env)) []) = _
  have e : ∀ ov, methodCall o name apos pos env ov (1 + 0) (backTo pos (starEach [.Constant (.str txt) k cp] env)) [] = (do
      let (f, first) ← holding [ov] (getMethod ov name (do return (← importBound o env).getD true))
      callWith pos f first (backTo pos (starEach [.Constant (.str txt) k cp] env)) []) := by
    intro ov
    have hf : methodCallForm (1 + 0) (backTo pos (starEach [.Constant (.str txt) k cp] env)) [] = true := rfl
    unfold methodCall calleeOf methodCallPos
    rw [hf]
    simp only [if_true, Bool.not_true, Bool.false_or, hl, pure_bind]
  simp only [e]
/-- the bound built-in __init__, called -/
theorem mw_call {B newId i : String} {bmB : List Value} (FB : ExcBaseFacts B newId i bmB) {h : Heap} {g : Array GenState} {d : Drawn} {t : Nat} {os : OsState} {u e t0 : Addr} {rest : List Value} {Q : Value → Shared → Prop}
    {nm q : Str} {N : Addr} {bs bm : List Value} {hdct : Bool} {sn : List Str} {sub : List Value} {ab : Bool} {col : Option Bool} {dd : Option Addr} {k0 k1 k2 k3 k5 : Option Value}
    (hC : h.get? C = some (excClassObj nm q C N bs bm hdct sn sub ab col dd k0 k1 k2 k3 k5 newId)) (he : h.get? e = some (excO C t0)) (hu : h.get? u = some (kxs_mw i e)) (hrest : rest.length ≤ sizeLine)
    (hq : ∀ h' t1, (∀ b o, b ≠ e → h.get? b = some o → h'.get? b = some o) → h'.get? e = some (excO C t1) → Q .none ⟨h', g, d, t, os⟩) :
    wpAny (model prog w) A (call (.ref u) rest) Q E ⟨h, g, d, t, os⟩ := by
  refine wpAny_call (codeAny_of_tree ?_)
  show wpAny _ A.in1 (callAny (.ref u) ⟨rest, []⟩) _ _ _
  simp only [callAny]
  refine wpAny_bind (wpAny_load hu ?_)
  have z : (Value.type "method-wrapper" == Value.type "method" || Value.type "method-wrapper" == Value.type "builtin_function_or_method" || Value.type "method-wrapper" == Value.type "method-wrapper") = true := by decide
  simp only [kxs_mw, z, if_true]
  refine KFB.if_so (by decide) ?_
  refine wpAny_bind (check_bound_init FB.toExcCallFacts hC he rfl ?_)
  refine wpAny_bind (wpAny_pure (wpAny_pure ?_))
  refine ⟨plainId_quiet FB.init.plain _, codeAny_builtin FB.initEntry ?_⟩
  exact exc_init_tree (cls := .ref C) (t0 := t0) (dv := none) (c2 := .none) (c3 := .none) (b4 := .bool false) he hrest fun h' k e' _ => hq h' _ k e'

theorem ex_init (T : ExTxt prog K mg x f txt C fI) (hns : s.heap.Ns mainGlobals mg) {mb : Str → Option Value} (hbn : s.heap.Ns builtinsNs mb) (hbb : ∀ x : Str, x ≠ "__name__" → mb x = bootBuiltins x)
    {e t0 : Addr} {v : Value} (X : K.In s.heap) (hlim : s.heap.NoLimit) (hx : s.heap.get? e = some (excO C t0)) (hnx : K.lookup e = none) (hroom : A.depth < recursionLimit)
    (hq : ∀ h' tk dx t1, Left s.heap h' e C dx t1 f v → R (.ok (.ret .none)) { s with heap := h', toks := tk }) :
    codeAny (model prog w) A (.call (.ref fI) ⟨[.ref e, v], []⟩) R s := by
  obtain ⟨qual, oc, od, doc, pm, an, cda, ct, osl, cc, o, cl, cld, csl, ccl, cdd, vs, ccs, file, tf, hfn, hcd, hol, hcc, hcda, hvs, hfile⟩ := T.fn
  obtain ⟨nm, q, N, bs, bm, sn, sub, ab, col, dd, k0, k1, k2, k3, k5, hC, hbm⟩ := T.cls
  have hcl : clsIn K C = some { name := nm, bases := bs, mro := .ref C :: bm, ns := N, qualname := q, hasDict := true, slotNames := sn, subclasses := sub, abstract := ab, collection := col, hasDel := false } := by unfold clsIn; rw [hC] <;> rfl
  have lk1 : ∀ (a b : Value), ([((("self" : Str)), a), (f, b)] : List (Str × Value)).reverse.lookup f = some b := fun a b => by
    show ([(f, b), (("self" : Str), a)] : List (Str × Value)).lookup f = some b
    simp [List.lookup]
  have lk0 : ∀ (a b : Value), ([((("self" : Str)), a), (f, b)] : List (Str × Value)).reverse.lookup (PySem.Str.ofString "self") = some a := fun a b => by
    show ([(f, b), (("self" : Str), a)] : List (Str × Value)).lookup (PySem.Str.ofString "self") = some a
    have z : (("self" : Str) == f) = false := by
      have := T.fse
      rw [beq_eq_false_iff_ne] at this ⊢
      exact fun y => this y.symm
    simp [List.lookup, z]
  refine ks_codeAny_call_defAt (fd := ksFn "__init__" qual (eA f o) (eB f txt o) (eS f) .none .none doc pm an (.ref cda) ct cc) (body := eB f txt o) (binds := [(PySem.Str.ofString "self", .ref e), (f, v)]) hroom (X _ _ hfn) rfl hlim (codeRec_of X hcd) rfl
    (BindsTo.of_eq (T.bnd _ _ _ _ _ _ _ _ _ _)) ?_ ?_ (fun h1 hns1 k1 => ?_) rfl rfl rfl
  · intro y hy
    have hy' : y ∈ [(PySem.Str.ofString "self", NameKind.local), (f, .local), (PySem.Str.ofString "__class__", .free), (PySem.Str.ofString "super", .globalImplicit)] := hy
    simp only [List.mem_cons, List.not_mem_nil, or_false] at hy'
    rcases hy' with rfl | rfl | rfl | rfl <;> simp
  · intro y hy
    simp only [List.mem_cons, List.not_mem_nil, or_false] at hy
    rcases hy with rfl | rfl
    · rfl
    · exact T.kf
  · have X1 : K.In h1 := X.keeps k1
    have hx1 := k1 _ _ hx
    obtain ⟨oD, hD1, hD2⟩ : ∃ oD : Obj, h1.get? C = some oD ∧ ∃ cdD, oD.data = .cls cdD := ⟨_, X1 _ _ hC, _, rfl⟩
    obtain ⟨cdD, hD2⟩ := hD2
    have nC : e ≠ C := fun z => by
      rw [z] at hnx
      rw [hC] at hnx
      cases hnx
    obtain ⟨hp, g, d, tk, os⟩ := s
    -- super().__init__(txt)
    show wpAt _ _ _ (execs (_ :: _) _) _ _ _
    refine ks_wpAt_execs_cons (ks_wpAt_Expr_any ?_ rfl rfl)
    refine ks_wpAt_MethodCall (pl := do return (← importBound _ _).getD true) ?_ (one_line hol)
    refine ks_wpAt_super_base (env := ksEnv qual (eS f) hp.objs.size fI (.ref cda) cc) T.ks T.kc (by decide +kernel) rfl (X1 _ _ hfn) rfl rfl rfl (X1 _ _ hcda) rfl hvs hfile T.top ?_
    refine ks_loadName_global rfl T.ks (loadGlobal_builtin (env := ksEnv qual (eS f) hp.objs.size fI (.ref cda) cc) (hns.keeps k1) (mg_none_of X hns T.nos) (hbn.keeps k1) ((hbb _ (by decide +kernel)).trans PyProof.Rows.Boot.«super») ⟨rfl, ?_⟩)
    refine wpAny_loadName_free rfl T.kc rfl ⟨_, X1 _ _ hcc, rfl⟩ ?_
    refine wpAny_loadName_local rfl rfl hns1 (lk0 _ _) ?_
    refine ks_wpAny_isType_cls hD1 hD2 ⟨rfl, ?_⟩
    refine ks_wpAny_call_super hD1 hD2 hx1 rfl (fun c e => by cases e) (looks_mroIn X1 T.subm) (fun h2 e2 k2 => ?_)
    have X2 : K.In h2 := X1.keeps k2
    have I2 : InstAt h2 e (excO C t0) C none := ⟨k2 _ _ hx1, rfl, rfl, trivial⟩
    have hI : Looks (model prog w) h2 (isInstance (.ref e) (.type "ValueError")) true := I2.type.andThen (looks_subIn X2 T.subV)
    have hsup : alongIn K "__init__" (((Value.ref C :: bm).dropWhile (· != .ref C)).drop 1) = some (some (.builtin "ValueError.__init__")) := by
      have z := T.sup
      unfold ks_superIn at z
      rw [hcl] at z
      exact z
    refine kxs_getMethod kxs_ValueError e2 (looks_opaque X2 T.opq) (l₀ := .ref C :: bm) ?_ rfl X2 hsup hI nC (by decide +kernel) ?_
    · exact fun A Q E s k q => wpAny_bind ((looks_clsIn X2 hcl) A _ E s k (wpAny_pure q))
    refine kxs_callWith (i := "ValueError.__init__") (x := e) rfl (evalArgs_plain ?_)
    have hu : (h2.push (kxs_mw "ValueError.__init__" e)).get? h2.objs.size = some (kxs_mw "ValueError.__init__" e) := Heap.get?_push_at rfl rfl
    show wpAny _ _ (spliced [(false, eval (.Constant (.str txt) 0 o.q4) (ksEnv qual (eS f) hp.objs.size fI (.ref cda) cc))]) _ _ _
    refine Calls.spliced_cons ?_
    refine wpAny_Constant_str ?_
    refine Calls.spliced_nil ?_
    refine ⟨hu, ?_⟩
    have k3 : ∀ b o, h2.get? b = some o → (h2.push (kxs_mw "ValueError.__init__" e)).get? b = some o := fun b o z => Heap.get?_push_of_some _ z
    refine mw_call (C := C) PySem.F.excBase_ValueError (k3 _ _ (X2 _ _ hC)) (k3 _ _ I2.at_) hu (by show 1 ≤ sizeLine; rw [sizeLine_eq]; decide) (fun h4 t4 k4 hx4 => ?_)
    -- self.f = f
    have k14 : ∀ b o, b ≠ e → h1.get? b = some o → h4.get? b = some o := fun b o hb z => k4 b o hb (k3 _ _ (k2 _ _ z))
    have X4 : K.In h4 := fun b o z => k14 b o (fun y => by rw [y, hnx] at z; cases z) (X1 b o z)
    have ns4 : h4.Ns hp.objs.size (fun y => ([(PySem.Str.ofString "self", Value.ref e), (f, v)] : List (Str × Value)).reverse.lookup y) := by
      obtain ⟨oL, es, ep, hL, r⟩ := hns1
      exact ⟨oL, es, ep, k14 _ _ (Nat.ne_of_gt (Heap.lt_size hx)) hL, r⟩
    show wpAt _ _ _ (execs _ _) _ _ _
    refine wpAt_of_wpAny ?_
    show wpAny _ _ (execs (_ :: _) _) _ _ _
    refine wpAny_execs_cons (plainObj_wpAny_Assign_Attribute ?_)
    refine wpAny_Name (wpAny_loadName_local rfl T.kf ns4 (lk1 _ _) ?_) T.fdb
    refine wpAny_Name (wpAny_loadName_local rfl rfl ns4 (lk0 _ _) ?_) (by decide +kernel)
    refine set_plain X4 (ox := excO C t4) (od := none) ⟨hx4, rfl, rfl, trivial⟩ T.sa ?_
    refine exc_osa X4 hx4 hcl (show refsVE (.ref C :: bm) = true from hbm) rfl T.noN (fun h5 tk5 dx k5 dn dne hx5 hn5 => ?_)
    show wpAny _ _ (execs _ _) _ _ _
    refine wpAny_execs_nil (hq h5 tk5 dx t4 ⟨fun b o hb z => k5 b o hb (k14 b o hb (k1 b o z)), hx5, ?_, dne, hn5⟩)
    have z1 : hp.objs.size < h4.objs.size := ns4.lt
    exact Nat.le_of_lt (Nat.lt_of_lt_of_le z1 dn)

/-- one that has been made -/
structure Made (h h' : Heap) (e C d : Addr) (f : Str) (v : Value) : Prop where
  keep : ∀ b o, h.get? b = some o → h'.get? b = some o
  new : h.objs.size ≤ e
  obj : ∃ oe vs, h'.get? e = some oe ∧ oe.cls = .ref C ∧ oe.dict = some d ∧ oe.data = .fields vs ∧ vs[1]? = some .none
  dbig : h.objs.size ≤ d
  dne : d ≠ e
  ns : h'.Ns1 d (fun y => if y = f then some v else none)

theorem ex_made (T : ExTxt prog K mg x f txt C fI) (hns : s.heap.Ns mainGlobals mg) {mb : Str → Option Value} (hbn : s.heap.Ns builtinsNs mb) (hbb : ∀ x : Str, x ≠ "__name__" → mb x = bootBuiltins x)
    {v : Value} (X : K.In s.heap) (hlim : s.heap.NoLimit) (hroom : A.depth + 1 < recursionLimit)
    (hq : ∀ h' tk e d, Made s.heap h' e C d f v → R (.ok (.ret (.ref e))) { s with heap := h', toks := tk }) :
    codeAny (model prog w) A (.call (.ref C) ⟨[v], []⟩) R s := by
  obtain ⟨nm, q, N, bs, bm, sn, sub, ab, col, dd, k0, k1, k2, k3, k5, hC, hbm⟩ := T.cls
  obtain ⟨hp, g, dr, tk, os⟩ := s
  have k : ∀ b o, hp.get? b = some o → ((hp.push (kdv_tup [v])).push (excO C hp.objs.size)).get? b = some o :=
    fun b o e => Heap.get?_push_of_some _ (Heap.get?_push_of_some _ e)
  have hget : ((hp.push (kdv_tup [v])).push (excO C hp.objs.size)).get? (hp.objs.size + 1) = some (excO C hp.objs.size) := by heap_get
  have hnx : K.lookup (hp.objs.size + 1) = none := by
    cases e : K.lookup (hp.objs.size + 1) with
    | none => rfl
    | some o =>
      have z : hp.get? (hp.objs.size + 1) = some o := X _ _ e
      exact absurd (Nat.lt_of_succ_lt (Heap.lt_size z)) (Nat.lt_irrefl _)
  refine call_own F.excBase_ValueError (fun X => refsVE_contains X bm hbm) (X _ _ hC) (looks_findIn X T.iC) (fun self => bind_fn X self T.tC) (by show 1 ≤ sizeLine; rw [sizeLine_eq]; decide) ?_
  refine ex_init (s := ⟨(hp.push (kdv_tup [v])).push (excO C hp.objs.size), g, dr, tk, os⟩) T (hns.keeps k) (hbn.keeps k) hbb (X.keeps k) (hlim.keeps k) hget hnx ?_ ?_
  · show A.depth + 1 < recursionLimit
    exact hroom
  · rintro h' tk' dx t1 ⟨k', hx, dn, dne, hn⟩
    have old : ∀ b o, hp.get? b = some o → h'.get? b = some o := fun b o e => k' b o (Nat.ne_of_lt (Nat.lt_succ_of_lt (Heap.lt_size e))) (k b o e)
    have z : hp.objs.size + 1 + 1 ≤ dx := by
      have q := dn
      first
        | exact q
        | (simpa only [Heap.size_push] using q)
        | (rw [Heap.size_push, Heap.size_push] at q; exact q)
    exact ⟨rfl, hq h' tk' (hp.objs.size + 1) dx ⟨old, Nat.le_succ _, ⟨_, _, hx, rfl, rfl, rfl, rfl⟩, Nat.le_trans (Nat.le_trans (Nat.le_succ _) (Nat.le_succ _)) z, dne, hn⟩⟩
end
end ExG
end PySem

namespace Gd
open PySem PySem.Spec PyProof.Rows L2 PySem.ExG
theorem relO_one {v : V} {v' : Value} {n : Str} (r : RelV v v') (y : Str) : RelO (List.lookup y [(n, v)]) (if y = n then some v' else none) := by
  by_cases h : y = n
  · subst h
    have q : List.lookup y [(y, v)] = some v := by simp [List.lookup]
    rw [if_pos rfl, q]
    exact r
  · have qw : (y == n) = false := beq_eq_false_iff_ne.mpr h
    have q : List.lookup y [(n, v)] = none := by simp [List.lookup, qw]
    rw [if_neg h, q]
    trivial
section
variable {X : Cx} {C fI : Addr} {x f txt : Str}
/-- x(e): the error's own dict at d -/
def tMkEx (C : Addr) (f : Str) (ta : TA) : L2.St → Hp → XK → Prop := fun σ H Q => ta σ H fun vs H1 => ∃ v, vs = [v] ∧ ∀ d, H1 d = none → Q (.ref C) (some d) (upd H1 d (.xd [(f, v)]))
theorem pmk_ex {a : Expr} {ta : TA} {p pos : Pos} {k : Nat} (T : ExTxt X.prog X.K X.mg x f txt C fI) (hr : Room k X.A) (ha : PA X [a] ta) (hg : Gl X x)
    (hdb : (x == ("__debug__" : Str)) = false := by decide)
    (he : starEach (a :: []) X.env = (false, eval a X.env) :: starEach [] X.env := by rfl) (hpl : (backTo pos (starEach [] X.env)).any (·.1) = false := by rfl) :
    PMk X (.Call (.Name x p) [a] [] pos) (tMkEx C f ta) := by
  intro pins s σ H Q I h
  refine wpAny_Call_Name_kw (ld_glob I hg T.gC ?_ hdb)
  refine PySem.W.callWith_K (h₀ := X.base) I.ok.mod.kin T.kC (thn (ha.run pos pins s σ H _ I h) fun us s1 hh => ?_) he hpl
  obtain ⟨vs, H1, I1, r1, v, ev, q1⟩ := hh
  subst ev
  refine ⟨I1.kIn, ?_⟩
  cases r1 with
  | cons rv rn =>
    rename_i v' us'
    cases rn
    show wpAny _ _ (call (.ref C) [v']) _ _ _
    have hlim := I1.nolimit
    obtain ⟨mb, hbn, hbb⟩ := I1.ok.mod.blt
    have hbn' := hbn.keeps I1.bk
    have hns := I1.ok.mod.glob.keeps I1.bk
    have XK := I1.kIn
    obtain ⟨hp, g, dr, tk, os⟩ := s1
    refine wpAny_call (ex_made T hns hbn' hbb XK hlim (by have := hr.dp; omega) ?_)
    intro h' tk' e d M
    show MkP X pins σ Q (.ref e) ⟨h', g, dr, tk', os⟩
    obtain ⟨oe, fv, hoe, hc, hd, hdat, h1⟩ := M.obj
    have hn := M.ns
    obtain ⟨G', g1, g2⟩ := restrict h' fun b => decide (b ≠ e)
    have gk : ∀ b, b ≠ e → G'.get? b = h'.get? b := fun b hb => g1 b (decide_eq_true hb)
    have ge : G'.get? e = none := g2 e (by simp)
    have old : ∀ b o, hp.get? b = some o → G'.get? b = some o := fun b o q => (gk b (Nat.ne_of_lt (Nat.lt_of_lt_of_le (Heap.lt_size q) M.new))).trans (M.keep b o q)
    have ob : ObjOk X.prog X.w (upd H1 d (.xd [(f, v)])) G' d (.xd [(f, v)]) := ⟨_, hn.at (fun o q => (gk d M.dne).trans q), fun y => relO_one rv y⟩
    have J : Inv X pins σ (upd H1 d (.xd [(f, v)])) ⟨G', g, dr, tk', os⟩ := I1.laid (t' := tk') old M.dbig ob
    refine ⟨e, oe, fv, ⟨G', g, dr, tk', os⟩, _, .ref C, some d, rfl, J, fun b o q => ?_, ge, hoe, ⟨hc, hd⟩, hdat, h1, ?_, rfl, I1.bare, raises_own T.exC T.tyC, q1 d (I1.hok.fresh M.dbig)⟩
    · by_cases hb : b = e
      · have q' : G'.get? b = some o := q
        rw [hb, ge] at q'
        cases q'
      · exact (gk b hb).symm.trans q
    · rw [upd_ne (Ne.symm M.dne)]
      exact I1.hok.fresh M.new
/-- raise x(e) -/
def tRaiseEx (C : Addr) (f : Str) (W : WX) (ta : TA) : TS := fun _ σ H => tMkEx C f ta σ H fun cls d H' => W cls d σ H'
theorem ps_raiseEx {a : Expr} {ta : TA} {W : WX} {p pos pos2 : Pos} {k : Nat} (hc : X.calm = true) (T : ExTxt X.prog X.K X.mg x f txt C fI) (hr : Room k X.A) (tk : Takes X W) (ha : PA X [a] ta) (hg : Gl X x)
    (hdb : (x == ("__debug__" : Str)) = false := by decide)
    (he : starEach (a :: []) X.env = (false, eval a X.env) :: starEach [] X.env := by rfl) (hpl : (backTo pos (starEach [] X.env)).any (·.1) = false := by rfl) :
    PS X (.Raise (some (.Call (.Name x p) [a] [] pos)) none pos2) (tRaiseEx C f W ta) := ps_raise hc tk (pmk_ex T hr ha hg hdb he hpl)
/-- n.f, n the exception that the suite holds (at a; its class cls, its dict d) -/
def tByEx (C : Addr) (f : Str) (a : Addr) (cls : Value) (d : Option Addr) (te : TE) : TE := fun σ H Q => te σ H fun y H1 => y = .ref a ∧ cls = .ref C ∧ ∃ (dd : Addr) (v : V), d = some dd ∧ H1 dd = some (.xd [(f, v)]) ∧ Q v H1
theorem pe_byEx {a : Addr} {oe : Obj} {cls : Value} {d : Option Addr} {pn : List (Addr × Obj)} {e : Expr} {te : TE} {pos : Pos} (T : ExTxt X.prog X.K X.mg x f txt C fI) (hz : Zc cls d oe) (hf : ∃ vs, oe.data = .fields vs) (he : PE (X.suite a ((a, oe) :: pn)) e te)
    (hb : attributeBase e f X.env (eval e X.env) = eval e X.env := by rfl) :
    PE (X.suite a ((a, oe) :: pn)) (.Attribute e f pos) (tByEx C f a cls d te) := by
  refine ⟨fun pins s σ H Q I h => ?_⟩
  refine attr_of hb (thn (he.run pins s σ H _ I h) fun u s1 hh => ?_)
  obtain ⟨y, H1, I1, rx, ex, ec, dd, v, ed, ea, q⟩ := hh
  subst ex
  obtain rfl : u = Value.ref a := rx
  subst ec
  subst ed
  obtain ⟨ha, _⟩ := I1.pin (a, oe) (List.mem_append_left _ List.mem_cons_self)
  obtain ⟨vs, hd⟩ := hf
  have hx : ObjOk X.prog X.w H1 s1.heap dd (.xd [(f, v)]) := I1.hok dd _ ea
  obtain ⟨mA, hns, hr⟩ := hx
  obtain ⟨od, ho, hl⟩ := lookIn_ns hns
  have l : List.lookup f [(f, v)] = some v := by simp [List.lookup]
  obtain ⟨u, hu, ru⟩ := RelO.some_of (v := v) (o := mA f) (by rw [← l]; exact hr f)
  have J : PySem.W.InstAt s1.heap a oe C (some od) := ⟨ha, hz.1, by unfold PySem.W.notCls; rw [hd] <;> rfl, by rw [hz.2]; exact ho⟩
  exact HandSPX.exc_get I1.kIn J T.ga T.gg T.exC (PySem.W.findObj_own T.hdC T.noN rfl (by rw [hl, hu])) (handed_of ru) ⟨v, H1, I1.tok _, ru, q⟩
end
end Gd
set_option Elab.async false
set_option linter.all false
set_option maxRecDepth 100000
set_option maxHeartbeats 4000000
namespace Gd
open PySem PySem.Spec PyProof.Rows L2

/-! ### the law's call from its promise, where nothing is shown around -/
section
variable {pr : Program} {w : World} {K : PySem.W.Frag} {mg mb : Str → Option Value} {k : Nat} {fa a : Addr} {fd : FuncData} {x : Str} {sp : Sp}
  {s1 : Shared} {vs : List Value} {ns : List Int}

/-- from one abstract heap that tracks nothing but the script -/
theorem top_core (KX : K.In s1.heap) (hns : s1.heap.Ns mainGlobals mg) (hbn : s1.heap.Ns builtinsNs mb)
    (hbb : ∀ x : Str, x ≠ "__name__" → mb x = bootBuiltins x) (hlim : s1.heap.NoLimit) (hgen : s1.gens = #[]) (hsm : ∃ mm, s1.heap.Ns sysModules mm)
    (ha : s1.heap.get? a = some { cls := .type "list", data := .seq vs.toArray }) (hr : Room k callerA)
    (F : ∀ base : Heap, K.In base → base.Ns mainGlobals mg → (∃ o, base.get? sysModules = some o) → FnG pr w K mg base CX0 k fa fd [x] sp)
    (hbind : ∀ (s : Shared) (u : Value), BindsTo s fd ⟨[u], []⟩ [(x, u)])
    (H : Hp) (hO : Only H) (hsp : sp [.ref a] H (fun v _ => v = .bl true) fun _ _ _ => False)
    (hok : HOk pr w H s1.heap) (hA : ∀ b, H b ≠ none → b = a) (hK : H a ≠ none → K.lookup a = none) :
    codeAny (model pr w) callerA (.call (.ref fa) ⟨[.ref a], []⟩)
      (fun r s' => r = .ok (.ret (.bool true)) ∧ OldK s1.heap s'.heap ∧ s'.os = s1.os ∧ AllBare s'.gens) s1 := by
  have keepB : ∀ {b : Addr} {o : Obj}, s1.heap.get? b = some o → H b = none → (hidT s1.heap H).get? b = some o := fun e n => hidT_get e n
  have isA : ∀ {b : Addr} {u : HO}, H b = some u → b = a := fun {b u} q => hA b (by rw [q]; exact Option.some_ne_none _)
  have nsB : ∀ {b : Addr} {m : Str → Option Value}, s1.heap.Ns b m → (hidT s1.heap H).Ns b m := by
    rintro b m ⟨o, es, ep, e, d, r⟩
    refine ⟨o, es, ep, keepB e ?_, d, r⟩
    cases q : H b with
    | none => rfl
    | some u =>
      have z := isA q
      subst z
      rw [ha] at e
      cases e
      cases d
  have inB : K.In (hidT s1.heap H) := by
    intro b o e
    refine keepB (KX b o e) ?_
    cases q : H b with
    | none => rfl
    | some u =>
      have z := isA q
      subst z
      rw [hK (by rw [q]; exact Option.some_ne_none _)] at e
      cases e
  have smB : ∃ o, (hidT s1.heap H).get? sysModules = some o := by
    obtain ⟨mm, hm⟩ := hsm
    obtain ⟨o, _, _, e, _⟩ := nsB hm
    exact ⟨o, e⟩
  obtain ⟨mc, l1, l2⟩ := hlim
  have modB : L2.Mod K mg (hidT s1.heap H) := ⟨inB, nsB hns, ⟨mb, nsB hbn, hbb⟩, ⟨mc, nsB l1, l2⟩⟩
  have e0 : Env0 pr w K mg (hidT s1.heap H) callerA [] s1 H :=
    { frames := rfl, mod := modB, bs := fun b o e => of_hidT e, bsz := Nat.le_of_eq (hidT_size _ _), funs := trivial,
      frf := fun b hb => absurd (show b ∈ ([] : List Addr) from hb) (by simp), hok := hok, bare := .of_eq hgen }
  refine codeAny_mono ((F _ inB (nsB hns) smB).run callerA [] s1 H ⟨[.ref a], []⟩ [.ref a] [.ref a] _ _ rfl hr e0 (hbind s1 (.ref a)) (.cons rfl .nil) hsp) ?_
  intro r s' h
  cases r with
  | error e => exact False.elim h
  | ok fl =>
    cases fl with
    | next => exact False.elim h
    | brk => exact False.elim h
    | cont => exact False.elim h
    | ret u =>
      obtain ⟨v, H', os, bare, un, hok', r', q⟩ := h
      have q' : v = .bl true := q
      subst q'
      obtain rfl : u = Value.bool true := r'
      refine ⟨rfl, OldK.of_keep ?_, os, bare⟩
      intro b o e
      cases q : H b with
      | none => exact un.keep b o e q (fun z => absurd (show b ∈ ([] : List Addr) from z) (by simp)) (by simp)
      | some u =>
        rcases hO b with z | ⟨ob, xs, z⟩
        · rw [q] at z
          cases z
        · obtain ⟨e1, _⟩ := hok b _ z
          obtain ⟨e2, _⟩ := hok' b _ (un.frzs b ob _ z)
          rw [e] at e1
          cases e1
          exact e2

theorem top_call (KX : K.In s1.heap) (hns : s1.heap.Ns mainGlobals mg) (hbn : s1.heap.Ns builtinsNs mb)
    (hbb : ∀ x : Str, x ≠ "__name__" → mb x = bootBuiltins x) (hlim : s1.heap.NoLimit) (hgen : s1.gens = #[]) (hsm : ∃ mm, s1.heap.Ns sysModules mm)
    (ha : s1.heap.get? a = some { cls := .type "list", data := .seq vs.toArray }) (hi : IntsAre vs ns) (hl : ns.length ≤ sizeLine) (hr : Room k callerA)
    (F : ∀ base : Heap, K.In base → base.Ns mainGlobals mg → (∃ o, base.get? sysModules = some o) → FnG pr w K mg base CX0 k fa fd [x] sp)
    (hbind : ∀ (s : Shared) (u : Value), BindsTo s fd ⟨[u], []⟩ [(x, u)])
    (hsp : ∀ H : Hp, Only H → SqL K H a (ns.map V.int) → sp [.ref a] H (fun v _ => v = .bl true) fun _ _ _ => False) :
    codeAny (model pr w) callerA (.call (.ref fa) ⟨[.ref a], []⟩)
      (fun r s' => r = .ok (.ret (.bool true)) ∧ OldK s1.heap s'.heap ∧ s'.os = s1.os ∧ AllBare s'.gens) s1 := by
  have rv := vals_ints hi
  have ln := hi.length
  cases hk : K.lookup a with
  | some o =>
    have e := KX a o hk
    rw [ha] at e
    cases e
    have O : Only (fun _ => none) := fun _ => .inl rfl
    refine top_core KX hns hbn hbb hlim hgen hsm ha hr F hbind _ O (hsp _ O ?_) ?_ ?_ ?_
    · exact .inr ⟨_, vs.toArray, _, hk, rfl, rfl, rfl, by rw [List.size_toArray, ln]; exact hl, by simpa using rv⟩
    · intro b u z
      have z' : (none : Option HO) = some u := z
      cases z'
    · exact fun b z => absurd rfl z
    · exact fun z => absurd rfl z
  | none =>
    let H : Hp := fun b => if b = a then some (.frz { cls := .type "list", data := .seq vs.toArray } (.lst (ns.map V.int))) else none
    have Ha : H a = some (.frz { cls := .type "list", data := .seq vs.toArray } (.lst (ns.map V.int))) := if_pos rfl
    have Hn : ∀ b, b ≠ a → H b = none := fun b h => if_neg h
    have O : Only H := fun b => by
      by_cases hb : b = a
      · subst hb
        exact .inr ⟨_, _, Ha⟩
      · exact .inl (Hn b hb)
    refine top_core KX hns hbn hbb hlim hgen hsm ha hr F hbind H O (hsp H O (.inl (.inr ⟨_, Ha⟩))) ?_ ?_ (fun _ => hk)
    · intro b u z
      by_cases hb : b = a
      · subst hb
        rw [Ha] at z
        cases z
        exact ⟨ha, by rw [List.length_map]; exact hl, vs, _, rv, ha⟩
      · rw [Hn b hb] at z
        cases z
    · intro b z
      by_cases hb : b = a
      · exact hb
      · exact absurd (Hn b hb) z
end

theorem walkG {l : PySem.W.OpenLaw} {n k : Nat} {q : Program} {loose : List Str} {XP : (Str → Option Value) → Heap → Prop}
    {YP : World → Heap → Prop} {d : DefRec} {K : Params → PySem.W.Frag} {sp : World → Sp} {x : Str}
    (him : importsNone q = true) (hn : l.most = some n) (hn2 : n ≤ sizeLine) (hdf : d.params.defaults = []) (hr : Room k callerA)
    (hY : ∀ (w : World) (h : Heap), YP w h → (K w.params).In h)
    (F : ∀ (w : World) (mg : Str → Option Value) (fa : Addr) (h : Heap), (K w.params).In h → h.Ns mainGlobals mg → mg d.name = some (.ref fa) →
      ∃ fd : FuncData, (∀ (s : Shared) (u : Value), BindsTo s fd ⟨[u], []⟩ [(x, u)]) ∧
        ∀ base : Heap, (K w.params).In base → base.Ns mainGlobals mg → (∃ o, base.get? sysModules = some o) → FnG l.prog w (K w.params) mg base CX0 k fa fd [x] (sp w))
    (hsp : ∀ (w : World) (H : Hp) (a : Addr) (ns : List Int), ns.length ≤ n → Only H → SqL (K w.params) H a (ns.map V.int) →
      sp w [.ref a] H (fun v _ => v = .bl true) fun _ _ _ => False) :
    PySem.W.WalkO q loose XP YP l.row.toRowW d [] (fun f vs => PySem.call f vs) := by
  refine Att.attach_call hn hdf ?_
  intro w s0 s1 mg mb fa o pm cd doc a vs ns G Y ho hd hcd hmg hobj hints hlen hg
  obtain ⟨fd, hb, hF⟩ := F w mg fa _ (hY w _ Y) G.T.g hmg
  exact top_call (hY w _ Y) G.T.g G.T.b G.T.builtins G.T.nolimit hg (by obtain ⟨mm, hm, _⟩ := (G.T.seer him).mods; exact ⟨mm, hm⟩) hobj hints (Nat.le_trans hlen hn2) hr hF hb
    fun H hO hS => hsp w H a ns hlen hO hS
end Gd
set_option Elab.async false
set_option linter.all false
set_option maxRecDepth 100000
set_option maxHeartbeats 4000000
namespace K1
open PySem L2 Gd
/-! ### the text by places -/
def top (i : Nat) : Stmt := PySem.Challenge.pw_oftenenough_k01_whole_plans_judged.main.body.getD i (.Pass ⟨0, 0, 0, 0⟩)
abbrev sIni : Stmt := inClass (top 2) 0
abbrev sWh : Stmt := top 7
abbrev sBet : Stmt := top 8
abbrev sGap : Stmt := top 9
abbrev sNeed : Stmt := top 10
abbrev sBegun : Stmt := top 12
abbrev sDraw : Stmt := top 13
abbrev sOf : Stmt := top 14
abbrev sIsInt : Stmt := top 15
abbrev sWrong : Stmt := top 16
abbrev sSaid : Stmt := top 17
abbrev sRight : Stmt := top 18
abbrev sAny : Stmt := top 19
abbrev sDrawn : Stmt := top 20
abbrev sBent : Stmt := top 21
abbrev sOdd : Stmt := top 22
abbrev sHand : Stmt := top 23
abbrev sLaw : Stmt := top 24

/-! ### the draws' state -/
def mD (l sd : Int) (c : Addr) (sp : Int) : List (Key × V) := [(.inr "left", .int l), (.inr "seed", .int sd), (.inr "cells", .ref c), (.inr "spot", .int sp)]
theorem sne1 : ¬ ("left" : Str) = "seed" := by decide +kernel
theorem sne2 : ¬ ("left" : Str) = "cells" := by decide +kernel
theorem sne3 : ¬ ("left" : Str) = "spot" := by decide +kernel
theorem sne4 : ¬ ("seed" : Str) = "cells" := by decide +kernel
theorem sne5 : ¬ ("seed" : Str) = "spot" := by decide +kernel
theorem sne6 : ¬ ("cells" : Str) = "spot" := by decide +kernel
theorem inr_ne {a b : Str} (h : ¬ a = b) : ¬ (Sum.inr a : Key) = Sum.inr b := fun z => h (Sum.inr.inj z)
theorem v_left (l sd : Int) (c : Addr) (sp : Int) : valV (mD l sd c sp) (.inr "left") = some (.int l) := valV_pos rfl
theorem v_seed (l sd : Int) (c : Addr) (sp : Int) : valV (mD l sd c sp) (.inr "seed") = some (.int sd) := by
  unfold mD
  rw [valV_neg (inr_ne sne1), valV_pos rfl]
theorem v_cells (l sd : Int) (c : Addr) (sp : Int) : valV (mD l sd c sp) (.inr "cells") = some (.ref c) := by
  unfold mD
  rw [valV_neg (inr_ne sne2), valV_neg (inr_ne sne4), valV_pos rfl]
theorem v_spot (l sd : Int) (c : Addr) (sp : Int) : valV (mD l sd c sp) (.inr "spot") = some (.int sp) := by
  unfold mD
  rw [valV_neg (inr_ne sne3), valV_neg (inr_ne sne5), valV_neg (inr_ne sne6), valV_pos rfl]
theorem p_left (l sd : Int) (c : Addr) (sp y : Int) : putK (mD l sd c sp) (.inr "left") (.int y) = mD y sd c sp := by
  have h1 : ¬ (Sum.inr "seed" : Key) = Sum.inr ("left" : Str) := inr_ne fun z => sne1 z.symm
  have h2 : ¬ (Sum.inr "cells" : Key) = Sum.inr ("left" : Str) := inr_ne fun z => sne2 z.symm
  have h3 : ¬ (Sum.inr "spot" : Key) = Sum.inr ("left" : Str) := inr_ne fun z => sne3 z.symm
  unfold mD putK
  rw [if_pos (by simp)]
  simp only [List.map_cons, List.map_nil, if_pos, if_neg h1, if_neg h2, if_neg h3]
theorem p_spot (l sd : Int) (c : Addr) (sp y : Int) : putK (mD l sd c sp) (.inr "spot") (.int y) = mD l sd c y := by
  have h1 : ¬ (Sum.inr "left" : Key) = Sum.inr ("spot" : Str) := inr_ne sne3
  have h2 : ¬ (Sum.inr "seed" : Key) = Sum.inr ("spot" : Str) := inr_ne sne5
  have h3 : ¬ (Sum.inr "cells" : Key) = Sum.inr ("spot" : Str) := inr_ne sne6
  unfold mD putK
  rw [if_pos (by simp)]
  simp only [List.map_cons, List.map_nil, if_pos, if_neg h1, if_neg h2, if_neg h3]
section
variable {H : Hp} {m : Addr} {l sd sp : Int} {c : Addr}
theorem g_left (h : H m = some (.dK (mD l sd c sp))) : DGet H m (.str "left") (some (.int l)) := by rw [← v_left l sd c sp]; exact DGet.k (k := Sum.inr "left") h
theorem g_seed (h : H m = some (.dK (mD l sd c sp))) : DGet H m (.str "seed") (some (.int sd)) := by rw [← v_seed l sd c sp]; exact DGet.k (k := Sum.inr "seed") h
theorem g_cells (h : H m = some (.dK (mD l sd c sp))) : DGet H m (.str "cells") (some (.ref c)) := by rw [← v_cells l sd c sp]; exact DGet.k (k := Sum.inr "cells") h
theorem g_spot (h : H m = some (.dK (mD l sd c sp))) : DGet H m (.str "spot") (some (.int sp)) := by rw [← v_spot l sd c sp]; exact DGet.k (k := Sum.inr "spot") h
theorem u_left (y : Int) (h : H m = some (.dK (mD l sd c sp))) : DPut H m (.str "left") (.int y) (upd H m (.dK (mD y sd c sp))) := by
  rw [← p_left l sd c sp]; exact DPut.k (k := Sum.inr "left") (v := .int y) h (by rw [sizeLine_eq]; show 4 < _; decide)
theorem u_spot (y : Int) (h : H m = some (.dK (mD l sd c sp))) : DPut H m (.str "spot") (.int y) (upd H m (.dK (mD l sd c y))) := by
  rw [← p_spot l sd c sp]; exact DPut.k (k := Sum.inr "spot") (v := .int y) h (by rw [sizeLine_eq]; show 4 < _; decide)
end
/-- the draws' state stands at m, at most n draws were made -/
structure MOk (H : Hp) (m c : Addr) (n : Nat) : Prop where
  ex : ∃ (l sd : Int) (sp : Int) (cs : List Int), H m = some (.dK (mD l sd c sp)) ∧ H c = some (.lst (cs.map V.int)) ∧ 0 < cs.length ∧ cs.length ≤ 200 ∧ 0 ≤ sp ∧ sp ≤ n
/-- all but m stands as it was -/
def Grow (m : Addr) (H H' : Hp) : Prop := ∀ b o, b ≠ m → H b = some o → H' b = some o
theorem Grow.refl (m : Addr) (H : Hp) : Grow m H H := fun _ _ _ h => h
theorem Grow.trans {m : Addr} {H H1 H2 : Hp} (a : Grow m H H1) (b : Grow m H1 H2) : Grow m H H2 := fun c o n h => b c o n (a c o n h)
theorem Grow.upd (m : Addr) (H : Hp) (o : HO) : Grow m H (upd H m o) := fun b u n h => by rw [upd_ne n]; exact h
theorem Grow.new {m p : Addr} {H : Hp} {o : HO} (h : H p = none) : Grow m H (L2.upd H p o) := fun b u n e => by rw [upd_ne (ne_of_none e h)]; exact e
theorem MOk.new {m c p : Addr} {H : Hp} {o : HO} {n : Nat} (M : MOk H m c n) (h : H p = none) : MOk (L2.upd H p o) m c n := by
  obtain ⟨l, sd, sp, cs, h1, h2, r⟩ := M.ex
  exact ⟨l, sd, sp, cs, by rw [upd_ne (ne_of_none h1 h)]; exact h1, by rw [upd_ne (ne_of_none h2 h)]; exact h2, r⟩
theorem MOk.set {m c p : Addr} {H : Hp} {o : HO} {n : Nat} (M : MOk H m c n) (h1 : p ≠ m) (h2 : p ≠ c) : MOk (L2.upd H p o) m c n := by
  obtain ⟨l, sd, sp, cs, e1, e2, r⟩ := M.ex
  exact ⟨l, sd, sp, cs, by rw [upd_ne h1.symm]; exact e1, by rw [upd_ne h2.symm]; exact e2, r⟩
theorem MOk.up {m c : Addr} {H : Hp} {n k : Nat} (M : MOk H m c n) (h : n ≤ k) : MOk H m c k := by
  obtain ⟨l, sd, sp, cs, h1, h2, h3, h4, h5, h6⟩ := M.ex
  exact ⟨l, sd, sp, cs, h1, h2, h3, h4, h5, by omega⟩

/-! ### the top's names -/
structure Txt (K : PySem.W.Frag) (mg : Str → Option Value) : Prop where
  int : mg "int" = none
  len : mg "len" = none

theorem modB (x : Int) {k : Int} (h : 0 < k) (h2 : k < 2 ^ 64) : -(2 ^ 64) < x % k ∧ x % k < 2 ^ 64 := by
  have a1 := Int.emod_nonneg x (b := k) (by omega)
  have a2 := Int.emod_lt_of_pos x (b := k) h
  omega
/-- _law_draw(m, many): a number from 0 to below many; one draw more -/
def spDraw : Sp := fun vs H Q _ => ∃ (m c : Addr) (many : Int) (n : Nat), vs = [.ref m, .int many] ∧ MOk H m c n ∧ n ≤ 100000 ∧ 0 < many ∧ many.natAbs < 2 ^ 8000 ∧
  ∀ (r : Int) (H' : Hp), 0 ≤ r → r < many → MOk H' m c (n + 1) → Grow m H H' → Q (.int r) H'
section
variable {P : Program} {w : World} {K : PySem.W.Frag} {mg : Str → Option Value} {base : Heap}
theorem scDraw : FnScope ["m", "many", "found", "spot", "cells", "added", "cell", "blend"] ["m", "many"] (defScope sDraw) := ⟨rfl, rfl, rfl, by decide +kernel, rfl, by decide +kernel, by decide +kernel⟩
theorem ok_draw {f : Addr} {fd : FuncData} (F : Fun K "_law_draw" "_law_draw" sDraw f fd) (T : Txt K mg) : FnOk P w K mg base CX0 1 f fd ["m", "many"] spDraw := by
  refine F.ok scDraw (fun vs H Q E h => ?_) (fun cdv A outer s H vs Q E hr h => ?_)
  · obtain ⟨m, c, many, n, rfl, _⟩ := h
    rfl
  · obtain ⟨m, c, many, n, rfl, M, hn, h0, h1, k⟩ := h
    have hu := hu_of hr
    obtain ⟨l, sd, sp, cs, e1, e2, c0, c1, s0, s1⟩ := M.ex
    have nd := scDraw.nd
    have mc : c ≠ m := ne_of e2 e1 (by intro z; cases z)
    refine ⟨_, pss_cons (ps_if (pt_cmpR op_gt (pe_dget hu (pv 0) pe_str (fun _ _ => rfl)) pe_int (nomark _))
        (pss_cons (ps_set (i := 2) nd rfl (Or.inl rfl) (pe_op op_mod (pe_callTy call_int1 (by rfl) T.int (by decide +kernel) (pa_cons (pe_dget hu (pv 0) pe_str (fun _ _ => rfl)) pa_nil)) (pv 1)))
        (pss_cons (ps_dput hu (pv 0) pe_str (pe_op op_fdivW (pe_dget hu (pv 0) pe_str (fun _ _ => rfl)) (pv 1)) rfl)
        (pss_one (ps_ret (pv 2))))) pss_nil)
      (pss_cons (ps_set (i := 3) nd rfl (Or.inl rfl) (pe_dget hu (pv 0) pe_str (fun _ _ => rfl)))
      (pss_cons (ps_dput hu (pv 0) pe_str (pe_op op_add (pv 3) pe_int) rfl)
      (pss_cons (ps_par (i := 4) (j := 5) (by rfl) nd rfl rfl (by decide) rfl rfl (pa_cons (pe_dget hu (pv 0) pe_str (fun _ _ => rfl))
          (pa_cons (pe_op op_add (pe_dget hu (pv 0) pe_str (fun _ _ => rfl)) (pe_op op_mul (pe_op op_mul pe_int (pv 3)) (pv 3))) pa_nil)) (by rfl))
      (pss_cons (ps_set (i := 6) nd rfl (Or.inl rfl) (pe_ix ix_list (pv 4) (pe_op op_mod (pe_callTy call_int1 (by rfl) T.int (by decide +kernel) (pa_cons (pv 3) pa_nil))
          (pe_callB call_len_seq (by rfl) T.len PySem.boot_len (pa_cons (pv 4) pa_nil))) (fun _ _ => rfl)))
      (pss_cons (ps_set (i := 7) nd rfl (Or.inl rfl) (pe_op op_mod (pe_callTy call_int1 (by rfl) T.int (by decide +kernel)
          (pa_cons (pe_op op_add (pe_op op_mul (pv 6) (pe_op op_add (pe_op op_mul pe_int (pv 3)) pe_int)) (pv 5)) pa_nil)) pe_int))
      (pss_cons (ps_set (i := 7) nd rfl (Or.inl rfl) (pe_op op_mod (pe_callTy call_int1 (by rfl) T.int (by decide +kernel)
          (pa_cons (pe_op op_add (pe_op op_add (pe_op op_mul (pv 7) (pv 7)) (pe_op op_mul pe_int (pv 3))) (pe_dget hu (pv 0) pe_str (fun _ _ => rfl))) pa_nil)) pe_int))
      (pss_one (ps_ret (pe_op op_mod (pe_op op_fdiv (pe_op op_mod (pe_callTy call_int1 (by rfl) T.int (by decide +kernel)
          (pa_cons (pe_op op_add (pe_op op_mul (pv 7) pe_int) (pv 3)) pa_nil)) pe_int) pe_int) (pv 1)))))))))), ?_⟩
    refine ⟨_, rfl, m, _, rfl, g_left e1, _, _, rfl, rfl, _, rfl, ?_⟩
    refine ite2 (fun hl => ?_) (fun hl => ?_)
    · -- the digits of a great cell
      refine ⟨_, rfl, m, _, rfl, g_left e1, .inl ⟨_, rfl, ?_⟩⟩
      refine ⟨_, rfl, _, _, rfl, rfl, h0, ?_⟩
      refine ⟨_, rfl, m, _, rfl, g_left e1, _, rfl, _, _, rfl, rfl, wide_div h0 h1 (by decide) (by decide), ?_⟩
      refine ⟨_, rfl, m, _, rfl, u_left _ e1, ?_⟩
      refine ⟨_, rfl, ?_⟩
      refine k _ _ (Int.emod_nonneg _ (by omega)) (Int.emod_lt_of_pos _ h0) ⟨⟨_, sd, sp, cs, upd_same, by rw [upd_ne mc]; exact e2, c0, c1, s0, by omega⟩⟩ (Grow.upd _ _ _)
    · have e1' : upd H m (.dK (mD l sd c (sp + 1))) m = some (.dK (mD l sd c (sp + 1))) := upd_same
      have e2' : upd H m (.dK (mD l sd c (sp + 1))) c = some (.lst (cs.map V.int)) := by rw [upd_ne mc]; exact e2
      have hsp : (-(2 ^ 64) < sp ∧ sp < 2 ^ 64) := by omega
      have h3 : (-(2 ^ 64) < 2 * sp + 3 ∧ 2 * sp + 3 < 2 ^ 64) := by omega
      have hx : ∃ i : Nat, sp % ((cs.map V.int).length : Int) = (i : Int) ∧ ∃ z, cs[i]? = some z := by
        rw [List.length_map]
        have a1 := Int.emod_nonneg sp (b := (cs.length : Int)) (by omega)
        have a2 := Int.emod_lt_of_pos sp (b := (cs.length : Int)) (by omega)
        refine ⟨(sp % (cs.length : Int)).toNat, by omega, ?_⟩
        have a3 : (sp % (cs.length : Int)).toNat < cs.length := by omega
        exact ⟨_, List.getElem?_eq_getElem a3⟩
      obtain ⟨i, hi, z, hz⟩ := hx
      have hz' : (cs.map V.int)[i]? = some (.int z) := by rw [List.getElem?_map, hz]; rfl
      -- spot = m['spot']; m['spot'] = spot + 1
      refine ⟨_, rfl, m, _, rfl, g_spot e1, ?_⟩
      refine ⟨_, rfl, _, _, rfl, rfl, _, rfl, m, _, rfl, u_spot _ e1, ?_⟩
      -- cells, added
      refine ⟨_, rfl, m, _, rfl, g_cells e1', ?_⟩
      refine ⟨_, rfl, m, _, rfl, g_seed e1', ?_⟩
      refine ⟨_, rfl, _, _, rfl, rfl, .inr hsp, ?_⟩
      refine ⟨_, rfl, _, _, rfl, rfl, .inr hsp, ?_⟩
      refine ⟨_, _, rfl, rfl, ?_⟩
      refine ⟨_, _, rfl, ?_⟩
      -- cell
      refine ⟨_, rfl, ?_⟩
      refine ⟨_, rfl, .inl ⟨_, rfl, ?_⟩⟩
      refine ⟨_, rfl, c, _, rfl, .inl (SqL.of e2'), ?_⟩
      refine ⟨_, _, rfl, rfl, (by rw [List.length_map]; omega), ?_⟩
      refine ⟨c, _, _, _, rfl, rfl, SqL.of e2', (by rw [hi]; exact atI_nat hz'), ?_⟩
      -- blend
      refine ⟨_, rfl, ?_⟩
      refine ⟨_, rfl, _, _, rfl, rfl, .inl ⟨by decide, by decide⟩, ?_⟩
      refine ⟨_, _, rfl, rfl, ?_⟩
      refine ⟨_, _, rfl, rfl, .inr h3, ?_⟩
      refine ⟨_, rfl, _, _, rfl, rfl, .inl ⟨_, rfl, ?_⟩⟩
      refine ⟨_, _, rfl, rfl, (by show (0 : Int) < 2147483647; decide), ?_⟩
      -- blend
      refine ⟨_, rfl, _, rfl, _, _, rfl, rfl, .inl (modB _ (by decide) (by decide)), ?_⟩
      refine ⟨_, rfl, _, _, rfl, rfl, .inr hsp, ?_⟩
      refine ⟨_, _, rfl, rfl, ?_⟩
      refine ⟨_, rfl, m, _, rfl, g_seed e1', ?_⟩
      refine ⟨_, _, rfl, rfl, .inl ⟨_, rfl, ?_⟩⟩
      refine ⟨_, _, rfl, rfl, (by show (0 : Int) < 2147483629; decide), ?_⟩
      -- the end
      refine ⟨_, rfl, _, _, rfl, rfl, .inl (modB _ (by decide) (by decide)), ?_⟩
      refine ⟨_, rfl, _, _, rfl, rfl, .inl ⟨_, rfl, ?_⟩⟩
      refine ⟨_, _, rfl, rfl, (by show (0 : Int) < 2147483647; decide), ?_⟩
      refine ⟨_, _, rfl, rfl, ⟨by decide, by decide⟩, ?_⟩
      refine ⟨_, rfl, _, _, rfl, rfl, h0, ?_⟩
      refine k _ _ (Int.emod_nonneg _ (by omega)) (Int.emod_lt_of_pos _ h0) ⟨⟨l, sd, _, cs, upd_same, e2', c0, c1, by omega, by omega⟩⟩ (Grow.upd _ _ _)
end
end K1
set_option Elab.async false
set_option linter.all false
set_option maxRecDepth 100000
set_option maxHeartbeats 4000000
namespace K1
open PySem L2 Gd
/-! ### a def of the top, as others call it -/
structure At (K : PySem.W.Frag) (mg : Str → Option Value) (x : Str) (st : Stmt) (ps : List Str) (f : Addr) (fd : FuncData) : Prop where
  F : Fun K x x st f fd
  g : mg x = some (.ref f)
  b : Binds K fd ps []
/-! ### kinds of data -/
def kd : PyData → String
  | .none => "NoneType"
  | .bool _ => "bool"
  | .int _ => "int"
  | .str _ => "str"
  | .list _ => "list"
  | .tuple _ => "tuple"
  | .dict _ => "dict"
theorem _root_.Gd.Da.ty {K : PySem.W.Frag} {H : Hp} {v : V} {d : PyData} (h : Da H v d) : TyX K H v (.type (kd d)) := by
  cases h with
  | non => exact .base .non
  | bl b => exact .base (.bl b)
  | int i => exact .base (.int i)
  | str x => exact .base (.str x)
  | lst e _ => exact .base (.lst e)
  | tup e _ => exact .base (.tup e)
  | dic e _ => exact .base (.dK e)
def isT (c : String) (d : PyData) : Bool := kitB (kd d) c == some true
theorem kit_int (d : PyData) : kitB (kd d) "int" = some (match d with | .int _ => true | .bool _ => true | _ => false) := by
  cases d with
  | none => exact (by decide +kernel : kitB "NoneType" "int" = some false)
  | bool b => exact (by decide +kernel : kitB "bool" "int" = some true)
  | int i => exact (by decide +kernel : kitB "int" "int" = some true)
  | str x => exact (by decide +kernel : kitB "str" "int" = some false)
  | list xs => exact (by decide +kernel : kitB "list" "int" = some false)
  | tuple xs => exact (by decide +kernel : kitB "tuple" "int" = some false)
  | dict ks => exact (by decide +kernel : kitB "dict" "int" = some false)
theorem kit_bool (d : PyData) : kitB (kd d) "bool" = some (match d with | .bool _ => true | _ => false) := by
  cases d with
  | none => exact (by decide +kernel : kitB "NoneType" "bool" = some false)
  | bool b => exact (by decide +kernel : kitB "bool" "bool" = some true)
  | int i => exact (by decide +kernel : kitB "int" "bool" = some false)
  | str x => exact (by decide +kernel : kitB "str" "bool" = some false)
  | list xs => exact (by decide +kernel : kitB "list" "bool" = some false)
  | tuple xs => exact (by decide +kernel : kitB "tuple" "bool" = some false)
  | dict ks => exact (by decide +kernel : kitB "dict" "bool" = some false)
theorem kit_tuple (d : PyData) : kitB (kd d) "tuple" = some (match d with | .tuple _ => true | _ => false) := by
  cases d with
  | none => exact (by decide +kernel : kitB "NoneType" "tuple" = some false)
  | bool b => exact (by decide +kernel : kitB "bool" "tuple" = some false)
  | int i => exact (by decide +kernel : kitB "int" "tuple" = some false)
  | str x => exact (by decide +kernel : kitB "str" "tuple" = some false)
  | list xs => exact (by decide +kernel : kitB "list" "tuple" = some false)
  | tuple xs => exact (by decide +kernel : kitB "tuple" "tuple" = some true)
  | dict ks => exact (by decide +kernel : kitB "dict" "tuple" = some false)
theorem kit_list (d : PyData) : kitB (kd d) "list" = some (match d with | .list _ => true | _ => false) := by
  cases d with
  | none => exact (by decide +kernel : kitB "NoneType" "list" = some false)
  | bool b => exact (by decide +kernel : kitB "bool" "list" = some false)
  | int i => exact (by decide +kernel : kitB "int" "list" = some false)
  | str x => exact (by decide +kernel : kitB "str" "list" = some false)
  | list xs => exact (by decide +kernel : kitB "list" "list" = some true)
  | tuple xs => exact (by decide +kernel : kitB "tuple" "list" = some false)
  | dict ks => exact (by decide +kernel : kitB "dict" "list" = some false)
theorem kit_str (d : PyData) : kitB (kd d) "str" = some (match d with | .str _ => true | _ => false) := by
  cases d with
  | none => exact (by decide +kernel : kitB "NoneType" "str" = some false)
  | bool b => exact (by decide +kernel : kitB "bool" "str" = some false)
  | int i => exact (by decide +kernel : kitB "int" "str" = some false)
  | str x => exact (by decide +kernel : kitB "str" "str" = some true)
  | list xs => exact (by decide +kernel : kitB "list" "str" = some false)
  | tuple xs => exact (by decide +kernel : kitB "tuple" "str" = some false)
  | dict ks => exact (by decide +kernel : kitB "dict" "str" = some false)
theorem isi_da {K : PySem.W.Frag} {H : Hp} {v : V} {d : PyData} {c : String} {b : Bool} {Q : VK} (h : Da H v d) (e : kitB (kd d) c = some b) (q : Q (.bl b) H) : rIsi K [v, .ty c] H Q :=
  ⟨v, .ty c, .type (kd d), .type c, b, rfl, .ty c, h.ty, kit_ty e, q⟩
/-- an integer between two bounds -/
def betw (d : PyData) (lo hi : Int) : Bool := match d with
  | .int i => decide (lo ≤ i) && decide (i ≤ hi)
  | _ => false
structure TxI (mg : Str → Option Value) : Prop where
  isinstance : mg "isinstance" = none
  int : mg "int" = none
  bool : mg "bool" = none
/-- an integer, no truth -/
def wholeD (d : PyData) : Bool := match d with
  | .int _ => true
  | _ => false
/-- is_whole(value) -/
def spWh : Sp := fun vs H Q _ => ∃ (v : V) (d : PyData), vs = [v] ∧ Da H v d ∧ Q (.bl (wholeD d)) H
/-- is_between(value, low, high), _law_is_int(thing, least, most) -/
def spBet : Sp := fun vs H Q _ => ∃ (v : V) (d : PyData) (lo hi : Int), vs = [v, .int lo, .int hi] ∧ Da H v d ∧ Q (.bl (betw d lo hi)) H
section
variable {P : Program} {w : World} {K : PySem.W.Frag} {mg : Str → Option Value} {base : Heap}
theorem pure_bet {v : V} {d : PyData} {lo hi : Int} {H : Hp} {Q : VK} (hd : Da H v d) (q : Q (.bl (betw d lo hi)) H) :
    tAndV (tCB (rIsi K) (tCons (tVar 0) (tCons (tC (.ty "int")) tNil))) (tAndV (tNotV (tCB (rIsi K) (tCons (tVar 0) (tCons (tC (.ty "bool")) tNil)))) (tChain (rI0 fun i j => .bl (decide (i ≤ j))) (rI0 fun i j => .bl (decide (i ≤ j))) (tVar 1) (tVar 0) (tVar 2)))
      [some v, some (.int lo), some (.int hi)] H Q := by
  refine ⟨_, rfl, _, _, _, _, _, rfl, .ty _, hd.ty, kit_ty (kit_int d), _, rfl, ?_⟩
  cases hd with
  | non => exact iteF q
  | str x => exact iteF q
  | lst e r => exact iteF q
  | tup e r => exact iteF q
  | dic e r => exact iteF q
  | bl b =>
    refine iteT ?_
    refine ⟨_, rfl, _, _, _, _, _, rfl, .ty _, (Da.bl (H := H) b).ty, kit_ty (kit_bool (.bool b)), _, rfl, _, rfl, ?_⟩
    exact iteF q
  | int i =>
    refine iteT ?_
    refine ⟨_, rfl, _, _, _, _, _, rfl, .ty _, (Da.int (H := H) i).ty, kit_ty (kit_bool (.int i)), _, rfl, _, rfl, ?_⟩
    refine iteT ?_
    refine ⟨_, rfl, _, rfl, _, _, rfl, rfl, _, rfl, ?_⟩
    have q' : Q (.bl (decide (lo ≤ i) && decide (i ≤ hi))) H := q
    by_cases h : lo ≤ i
    · rw [decide_eq_true h] at q' ⊢
      refine iteT ⟨_, rfl, _, _, rfl, rfl, ?_⟩
      rw [Bool.true_and] at q'
      exact q'
    · rw [decide_eq_false h] at q' ⊢
      exact iteF q'
theorem pure_wh {v : V} {d : PyData} {H : Hp} {Q : VK} (hd : Da H v d) (q : Q (.bl (wholeD d)) H) :
    tAndV (tCB (rIsi K) (tCons (tVar 0) (tCons (tC (.ty "int")) tNil))) (tNotV (tCB (rIsi K) (tCons (tVar 0) (tCons (tC (.ty "bool")) tNil))))
      [some v] H Q := by
  refine ⟨_, rfl, _, _, _, _, _, rfl, .ty _, hd.ty, kit_ty (kit_int d), _, rfl, ?_⟩
  cases hd with
  | non => exact iteF q
  | str x => exact iteF q
  | lst e r => exact iteF q
  | tup e r => exact iteF q
  | dic e r => exact iteF q
  | bl b => exact iteT ⟨_, rfl, _, _, _, _, _, rfl, .ty _, (Da.bl (H := H) b).ty, kit_ty (kit_bool (.bool b)), _, rfl, q⟩
  | int i => exact iteT ⟨_, rfl, _, _, _, _, _, rfl, .ty _, (Da.int (H := H) i).ty, kit_ty (kit_bool (.int i)), _, rfl, q⟩
theorem scWh : FnScope ["value"] ["value"] (defScope sWh) := ⟨rfl, rfl, rfl, by decide +kernel, rfl, by decide +kernel, by decide +kernel⟩
theorem ok_wh {f : Addr} {fd : FuncData} (F : Fun K "is_whole" "is_whole" sWh f fd) (T : TxI mg) : FnOk P w K mg base CX0 1 f fd ["value"] spWh := by
  refine F.ok scWh (fun vs H Q E h => ?_) (fun cdv A outer s H vs Q E hr h => ?_)
  · obtain ⟨v, d, rfl, _⟩ := h
    rfl
  · obtain ⟨v, d, rfl, hd, q⟩ := h
    refine ⟨_, pss_one (ps_ret (pe_and (pe_callB call_isi (by rfl) T.isinstance (by decide +kernel) (pa_cons (pv 0) (pa_cons (pe_bltn (v := .ty "int") (by rfl) T.int (by decide +kernel) rfl) pa_nil)))
      (pe_one (pe_not (pe_callB call_isi (by rfl) T.isinstance (by decide +kernel) (pa_cons (pv 0) (pa_cons (pe_bltn (v := .ty "bool") (by rfl) T.bool (by decide +kernel) rfl) pa_nil))))))), ?_⟩
    exact pure_wh hd q
theorem scBet : FnScope ["value", "low", "high"] ["value", "low", "high"] (defScope sBet) := ⟨rfl, rfl, rfl, by decide +kernel, rfl, by decide +kernel, by decide +kernel⟩
theorem ok_bet {f : Addr} {fd : FuncData} (F : Fun K "is_between" "is_between" sBet f fd) (T : TxI mg) (TW : ∃ (fW : Addr) (fdW : FuncData), At K mg "is_whole" sWh ["value"] fW fdW) : FnOk P w K mg base CX0 2 f fd ["value", "low", "high"] spBet := by
  obtain ⟨fW, fdW, aW⟩ := TW
  have GW : FnOk P w K mg base CX0 1 fW fdW ["value"] spWh := ok_wh aW.F T
  refine F.ok scBet (fun vs H Q E h => ?_) (fun cdv A outer s H vs Q E hr h => ?_)
  · obtain ⟨v, d, lo, hi, rfl, _⟩ := h
    rfl
  · obtain ⟨v, d, lo, hi, rfl, hd, q⟩ := h
    refine ⟨_, pss_one (ps_ret (pe_and (pe_call GW hr rfl aW.g aW.F.kp aW.b .nil pass0 (pa_cons (pv 0) pa_nil))
        (pe_one (pe_chain op_le op_le (pv 1) (pv 0) (pv 2))))), ?_⟩
    refine ⟨_, rfl, v, d, rfl, hd, ?_⟩
    cases hd with
    | non => exact ⟨_, rfl, iteF q⟩
    | str x => exact ⟨_, rfl, iteF q⟩
    | lst e r => exact ⟨_, rfl, iteF q⟩
    | tup e r => exact ⟨_, rfl, iteF q⟩
    | dic e r => exact ⟨_, rfl, iteF q⟩
    | bl b => exact ⟨_, rfl, iteF q⟩
    | int i =>
      refine ⟨_, rfl, iteT ?_⟩
      refine ⟨_, rfl, _, rfl, _, _, rfl, rfl, _, rfl, ?_⟩
      have q' : Q (.bl (decide (lo ≤ i) && decide (i ≤ hi))) H := q
      by_cases h : lo ≤ i
      · rw [decide_eq_true h] at q' ⊢
        refine iteT ⟨_, rfl, _, _, rfl, rfl, ?_⟩
        rw [Bool.true_and] at q'
        exact q'
      · rw [decide_eq_false h] at q' ⊢
        exact iteF q'
theorem scIsInt : FnScope ["thing", "least", "most"] ["thing", "least", "most"] (defScope sIsInt) := ⟨rfl, rfl, rfl, by decide +kernel, rfl, by decide +kernel, by decide +kernel⟩
theorem ok_isint {f : Addr} {fd : FuncData} (F : Fun K "_law_is_int" "_law_is_int" sIsInt f fd) (T : TxI mg) : FnOk P w K mg base CX0 1 f fd ["thing", "least", "most"] spBet := by
  refine F.ok scIsInt (fun vs H Q E h => ?_) (fun cdv A outer s H vs Q E hr h => ?_)
  · obtain ⟨v, d, lo, hi, rfl, _⟩ := h
    rfl
  · obtain ⟨v, d, lo, hi, rfl, hd, q⟩ := h
    refine ⟨_, pss_one (ps_ret (pe_and (pe_callB call_isi (by rfl) T.isinstance (by decide +kernel) (pa_cons (pv 0) (pa_cons (pe_bltn (v := .ty "int") (by rfl) T.int (by decide +kernel) rfl) pa_nil)))
      (pe_and (pe_not (pe_callB call_isi (by rfl) T.isinstance (by decide +kernel) (pa_cons (pv 0) (pa_cons (pe_bltn (v := .ty "bool") (by rfl) T.bool (by decide +kernel) rfl) pa_nil))))
        (pe_one (pe_chain op_le op_le (pv 1) (pv 0) (pv 2)))))), ?_⟩
    exact pure_bet hd q
end
end K1
set_option Elab.async false
set_option linter.all false
set_option maxRecDepth 100000
set_option maxHeartbeats 4000000
/-! for i, x in enumerate(t), t a tuple -/
namespace Gd
open PySem PySem.Spec PyProof.Rows L2
theorem meets_en1 {v : Value} {o : Obj} {Z : Heap → Prop} (B : Begins v o Z) :
    Meets (Builtin.«enumerate.__new__» ⟨[.type "enumerate", v], []⟩) (fun _ R s => Z s.heap ∧
      R (.ok (.ret (.ref (s.heap.push o).objs.size)))
        { s with heap := (s.heap.push o).push { cls := .type "enumerate", data := .fields #[.none, .bool false, .ref s.heap.objs.size, rawInt 0, .none, .none] } }) :=
  .of_wp fun prog w A R s h => by
    obtain ⟨hp, g, d, tk, os⟩ := s
    obtain ⟨h1, h⟩ := h
    have hsub := sub_enumerate
    have q1 : ∀ {A' : Around} {E : Value → Shared → Prop} {Q : Value → Shared → Prop}, Q (.ref hp.objs.size) ⟨hp.push o, g, d, tk, os⟩ →
        wpAny (model prog w) A' (pyIter v) Q E ⟨hp, g, d, tk, os⟩ := fun q => B.iter prog w _ _ ⟨hp, g, d, tk, os⟩ _ h1 q
    wp_walk using q1
    refine wpAny_stack_any fun st => wpAny_pure ?_
    split
    · rename_i c _ _ _ _ _
      cases (c == Value.type "enumerate")
      all_goals (wp_walk using q1; exact ⟨_, rfl, h⟩)
    · wp_walk using q1
      exact ⟨_, rfl, h⟩
theorem call_en1 {prog : Program} {w : World} {A : Around} {E : Value → Shared → Prop} {s : Shared} {v : Value} {o : Obj} {Z : Heap → Prop} {Q : Value → Shared → Prop} (B : Begins v o Z) (h1 : Z s.heap)
    (h : ∀ h', IsEnum h' (s.heap.objs.size + 1) s.heap.objs.size 0 .none → h'.get? s.heap.objs.size = some o → h'.objs.size = s.heap.objs.size + 2 →
      (∀ b o, s.heap.get? b = some o → h'.get? b = some o) → Q (.ref (s.heap.objs.size + 1)) { s with heap := h' }) :
    wpAny (model prog w) A (call (.type "enumerate") [v]) Q E s := by
  refine callType_new F.called_enumerate (by decide) (F.typeCall_enumerate_1 _) (F.newCall_enumerate_1 _) (fun obj => F.args_object_init_2 obj _) F.entry_enumerate_new
    (meets_en1 B) ⟨h1, ?_⟩
  have hz : (s.heap.push o).objs.size = s.heap.objs.size + 1 := Heap.size_push ..
  show _ ∧ _
  rw [hz]
  have he : IsEnum ((s.heap.push o).push { cls := .type "enumerate", data := .fields #[.none, .bool false, .ref s.heap.objs.size, rawInt 0, .none, .none] })
      (s.heap.objs.size + 1) s.heap.objs.size 0 .none := by
    have q := Heap.get?_push_size (s.heap.push o) (o := { cls := .type "enumerate", data := .fields #[.none, .bool false, .ref s.heap.objs.size, rawInt 0, .none, .none] }) rfl
    rw [hz] at q
    exact q
  refine ⟨⟨_, he, rfl⟩, h _ he (Heap.get?_push_of_some _ (Heap.get?_push_size _ B.free)) (by rw [Heap.size_push, hz]) ?_⟩
  exact fun b o x => Heap.get?_push_of_some _ (Heap.get?_push_of_some _ x)

/-- the tuple at a, each item in a new pair -/
def ItE (K : PySem.W.Frag) (a : Addr) : It :=
  ⟨fun i H => ∃ (xs : List V) (x : V), SqT K H a xs ∧ xs[i]? = some x,
   fun i H v H' => ∃ T x, v = .ref T ∧ H T = none ∧ H' = upd H T (.tup [.int (i : Nat), x]) ∧ ∀ xs, SqT K H a xs → xs[i]? = some x,
   fun i H => ∃ xs : List V, SqT K H a xs ∧ xs.length = i⟩
theorem turn_enumT {P : Program} {w : World} {K : PySem.W.Frag} {elts : List Expr} {kk : Nat} {tpos : Pos} (a e it : Addr) :
    Turn P w K (.Tuple elts kk tpos) (ItE K a) [e, it] e (fun i h => (∃ old, IsEnum h e it ((i : Nat) : Int) old) ∧ h.IsTupleIter it a i ∧ e ≠ it ∧ a ≠ it ∧ e ≠ a) where
  mem := by simp
  obj := fun i h st b hb => by
    obtain ⟨⟨old, he⟩, ⟨o, ho, hc, hd⟩, _⟩ := st
    rcases (show b = e ∨ b = it by simpa using hb) with z | z
    · rw [z]
      exact ⟨_, he, fun v q => nomatch q⟩
    · rw [z]
      exact ⟨o, ho, fun v q => by rw [hd] at q; cases q⟩
  keep := fun i h h' st k => by
    obtain ⟨⟨old, he⟩, hi, hne⟩ := st
    exact ⟨⟨old, k e (by simp) _ he⟩, hi.at fun o q => k it (by simp) o q, hne⟩
  item := by
    intro X hP hw hK hc i pins s σ H E I hf st hg
    subst hP hw hK
    obtain ⟨⟨old, he⟩, hit, hne, hai, hea⟩ := st
    obtain ⟨xs, x, hq, hx⟩ := hg
    obtain ⟨its, rv, p, hz⟩ := I.tuple hq
    obtain ⟨u, hu, ru⟩ := rv.get hx
    have hel : e < s.heap.objs.size := Heap.lt_size he
    have hil : it < s.heap.objs.size := by
      obtain ⟨_, q, _⟩ := hit
      exact Heap.lt_size q
    have hi : i < its.toArray.size := by
      have := (List.getElem?_eq_some_iff.mp hu).1
      simpa using this
    refine wpAny_pyNext_enum_itemD (Draws.tuple (A := X.A.in1) (I.ok.hd hc) it a hai its.toArray) he ⟨hit, p⟩ hi hne (by simp [hne, hea]) ?_
    intro x' h' tk hx' ho hst hT hsz hk
    have eu : x' = u := by
      have q : its[i]? = some x' := by simpa using hx'
      rw [hu] at q
      exact (Option.some.inj q).symm
    subst eu
    refine ⟨_, rfl, wpAny_letOwnedTupleGo_enum (s := { s with heap := h', toks := tk + 1 }) ho fun h'' he' sb => ?_⟩
    have hT2 : h''.get? s.heap.objs.size = some { cls := .type "tuple", data := .seq #[.int i tk, x'] } := (sb.2 _ (Nat.ne_of_gt hel)).trans hT
    have new : ObjOk X.prog X.w (upd H s.heap.objs.size (.tup [.int (i : Nat), x])) h'' s.heap.objs.size (.tup [.int (i : Nat), x]) :=
      ⟨by show 2 ≤ sizeLine; decide, [.int i tk, x'], .cons ⟨_, rfl⟩ (.cons ru .nil), ⟨_, hT2, rfl, _, rfl⟩⟩
    have I1 : Inv X pins σ (upd H s.heap.objs.size (.tup [.int (i : Nat), x])) { s with heap := h'', toks := tk + 1 } :=
      I.turnedNew (ch := [e, it]) (fun b ob hb q => (sb.2 b (fun z => hb (by simp [z]))).trans (hk b ob (fun z => hb (by simp [z])) (fun z => hb (by simp [z])) q)) hf (Nat.le_refl _) new
    refine ⟨.ref s.heap.objs.size, _, I1, rfl, ⟨_, x, rfl, I.hok.fresh (Nat.le_refl _), rfl, fun ys hy => by rw [I.tuple_inj hy hq]; exact hx⟩,
      ⟨⟨x', ?_⟩, hst.1.at fun o q => (sb.2 it (Ne.symm hne)).trans q, hne, hai, hea⟩, fun b hb => ?_⟩
    · have e1 : ((i + 1 : Nat) : Int) = (i : Int) + 1 := by omega
      rw [e1]
      exact he'
    · have hb' : b < s.heap.objs.size := by
        rcases (show b = e ∨ b = it by simpa using hb) with z | z
        · rw [z]; exact hel
        · rw [z]; exact hil
      rw [upd_ne (Nat.ne_of_lt hb')]
      exact (hf b hb).1
  done := by
    intro X hP hw hK hc i pins s σ H E I hf st hg
    subst hP hw hK
    obtain ⟨⟨old, he⟩, hit, hne, hai, hea⟩ := st
    obtain ⟨xs, hq, hx⟩ := hg
    obtain ⟨its, rv, p, hz⟩ := I.tuple hq
    obtain ⟨f0, f1, f2, f3, f4, f5⟩ := hf it (by simp)
    have hl := rv.length
    have ei : i = its.toArray.size := by
      rw [List.size_toArray, ← hl]
      exact hx.symm
    rw [ei] at hit
    exact wpAny_pyNext_enum_endD (Draws.tuple (A := X.A.in1) (I.ok.hd hc) it a hai its.toArray) he ⟨hit, p⟩
      fun h' eb => ⟨rfl, I.turned (t' := s.toks) (fun b o hb q => eb b o hb q) f0 f1 f3 f4 f5⟩
  self := fun A i s Q E st h => let ⟨⟨_, he⟩, _⟩ := st; wpAny_pyIter_enum he h
def iEnT (K : PySem.W.Frag) (ta : TA) : TI := fun σ H R => ta σ H fun vs H1 => ∃ a xs, vs = [.ref a] ∧ SqT K H1 a xs ∧ R (ItE K a) H1
theorem pi_enT {X : Cx} {e : Expr} {ta : TA} {p pos tpos : Pos} {elts : List Expr} {kk : Nat} (hg : Gl X "enumerate") (hm : X.mg "enumerate" = none) (ha : PA X [e] ta)
    (hs : starEach [e] X.env = [(false, eval e X.env)] := by rfl) :
    PI X (.Tuple elts kk tpos) (.Call (.Name "enumerate" p) [e] [] pos) (iEnT X.K ta) := by
  constructor
  intro pins s σ H R I h
  refine Call_ (ld_blt I hg hm boot_enumerate (PyProof.Rows.callWith_type1 (thn (ha.run pos pins s σ H _ I h) ?_) hs rfl))
  rintro us s1 ⟨vs, H1, I1, r1, a, xs, ex, hq, q⟩
  subst ex
  cases r1 with
  | cons r rr =>
    cases rr
    cases r
    obtain ⟨its, rv, p', hz⟩ := I1.tuple hq
    refine call_en1 (begins_tuple a its.toArray) p' ?_
    intro h' he hit hsz hk
    refine wpAny_pyIter_enum he ?_
    have J : Inv X pins σ H1 { s1 with heap := h' } := I1.kept (t' := s1.toks) hk
    have hal : a < s1.heap.objs.size := by
      obtain ⟨o, ho, _⟩ := p'
      exact Heap.lt_size ho
    refine ⟨s1.heap.objs.size + 1, [s1.heap.objs.size + 1, s1.heap.objs.size], _, _, H1, rfl, J, turn_enumT a (s1.heap.objs.size + 1) s1.heap.objs.size,
      ⟨⟨.none, he⟩, ⟨_, hit, rfl, rfl⟩, Nat.succ_ne_self _, Nat.ne_of_lt hal, Nat.ne_of_gt (Nat.lt_succ_of_lt hal)⟩, ?_, q⟩
    intro b hb
    have hle : s1.heap.objs.size ≤ b := by
      rcases (show b = s1.heap.objs.size + 1 ∨ b = s1.heap.objs.size by simpa using hb) with z | z
      · rw [z]; exact Nat.le_add_right _ _
      · rw [z]; exact Nat.le_refl _
    exact I1.fpOk hle (I1.hok.fresh hle)
theorem walk_enT {K : PySem.W.Frag} {a : Addr} {xs : List V} : Walk (ItE K a) xs.length (fun H => SqT K H a xs) (YPair (fun i => some (.int (i : Nat))) (fun i => xs[i]?)) := by
  constructor
  · exact fun i _ hi q => ⟨xs, xs[i], q, by simp [hi]⟩
  · exact fun _ q => ⟨xs, q, rfl⟩
  · rintro i H v H' _ q ⟨T, x, h1, h2, h3, h4⟩
    exact ⟨T, .int (i : Nat), x, h1, h2, h3, rfl, h4 xs q⟩
end Gd
set_option Elab.async false
set_option linter.all false
set_option maxRecDepth 100000
set_option maxHeartbeats 4000000
namespace Gd
open PySem L2
theorem DaL.get {H : Hp} : ∀ {vs : List V} {ds : List PyData} {i : Nat} {v : V}, DaL H vs ds → vs[i]? = some v → ∃ d, ds[i]? = some d ∧ Da H v d
  | _, _, _, _, .nil, e => by simp at e
  | _, _, 0, _, .cons h _, e => by
    simp at e
    subst e
    exact ⟨_, rfl, h⟩
  | _, _, i + 1, v, .cons _ r, e => by
    obtain ⟨d, h1, h2⟩ := DaL.get (i := i) r (by simpa using e)
    exact ⟨d, by simpa using h1, h2⟩
theorem da_ints {H : Hp} : ∀ ps : List Int, DaL H (ps.map V.int) (ps.map PyData.int)
  | [] => .nil
  | i :: r => .cons (.int i) (da_ints r)
end Gd
namespace K1
open PySem L2 Gd PySem.ExG
/-! ### where a thing is wrong as a plan -/
def bigGap : Int := 10 ^ 30
def badGap : Nat → List PyData → Option (List Int)
  | _, [] => none
  | i, d :: ds => if betw d 1 bigGap = true then badGap (i + 1) ds else some [1, (i : Int)]
def plcG : PyData → Option (List Int)
  | .tuple gs => if 1 ≤ gs.length ∧ gs.length ≤ 8 then badGap 0 gs else some [1]
  | _ => some [1]
def plc : PyData → Option (List Int)
  | .tuple [h, g] => if betw h 1 3 = true then plcG g else some [0]
  | _ => some []
def plD (p : List Int) : PyData := .tuple (p.map .int)
theorem badGap_step {gs : List PyData} {i : Nat} {d : PyData} (h : gs[i]? = some d) : badGap i (gs.drop i) = if betw d 1 bigGap = true then badGap (i + 1) (gs.drop (i + 1)) else some [1, (i : Int)] := by
  obtain ⟨hi, e⟩ := List.getElem?_eq_some_iff.mp h
  rw [List.drop_eq_getElem_cons hi, e]
  rfl
theorem plc_short {ds : List PyData} (h : ds.length ≠ 2) : plc (.tuple ds) = some [] := by
  match ds, h with
  | [], _ => rfl
  | [_], _ => rfl
  | [_, _], h => exact absurd rfl h
  | _ :: _ :: _ :: _, _ => rfl
theorem plc_kind {d : PyData} (h : ∀ ds, d ≠ .tuple ds) : plc d = some [] := by
  cases d with
  | tuple ds => exact absurd rfl (h ds)
  | _ => rfl
theorem plc_two (h g : PyData) : plc (.tuple [h, g]) = if betw h 1 3 = true then plcG g else some [0] := rfl
theorem plcG_kind {d : PyData} (h : ∀ ds, d ≠ .tuple ds) : plcG d = some [1] := by
  cases d with
  | tuple ds => exact absurd rfl (h ds)
  | _ => rfl
theorem _root_.L2.Same.da {H H' : Hp} {v : V} {d : PyData} (e : Same H H') (h : Da H v d) : Da H' v d := h.mono e
theorem Same.new {H : Hp} {p : Addr} {o : HO} (h : H p = none) : Same H (upd H p o) := fun b u e => by rw [upd_ne (ne_of_none e h)]; exact e
/-- behind raise BadPlan(place) -/
theorem fin_raise {H0 H : Hp} {p dd : Addr} {pl : List Int} {fs : List (Str × V)} (s0 : Same H0 H) (hp : H p = none) (hdd : upd H p (.tup (pl.map V.int)) dd = none) :
    Same H0 (upd (upd H p (.tup (pl.map V.int))) dd (.xd fs)) ∧ Da (upd (upd H p (.tup (pl.map V.int))) dd (.xd fs)) (.ref p) (plD pl) :=
  ⟨(s0.trans (Same.new hp)).trans (Same.new hdd), (Same.new hdd).da (.tup upd_same (da_ints pl))⟩

/-- is_gap(value) -/
def spGap : Sp := fun vs H Q _ => ∃ (v : V) (d : PyData), vs = [v] ∧ Da H v d ∧ Q (.bl (betw d 1 bigGap)) H
/-- need_plan(thing): itself, or BadPlan with the place -/
def spNeed (C : Addr) : Sp := fun vs H Q E => ∃ (v : V) (d : PyData), vs = [v] ∧ Da H v d ∧ (∀ H', plc d = none → Same H H' → Q v H') ∧
  ∀ (p : List Int) (pv : V) (dd : Addr) (H' : Hp), plc d = some p → Same H H' → H' dd = some (.xd [("place", pv)]) → Da H' pv (plD p) → E (.ref C) (some dd) H'
structure TxN (pr : Program) (K : PySem.W.Frag) (mg : Str → Option Value) (C fI fB fG : Addr) (fdB fdG : FuncData) : Prop where
  ti : TxI mg
  tuple : mg "tuple" = none
  len : mg "len" = none
  enumerate : mg "enumerate" = none
  hands : ∃ t, mg "MOST_HANDS" = some (.int 3 t)
  things : ∃ t, mg "MOST_THINGS" = some (.int 8 t)
  gap : ∃ t, mg "MOST_GAP" = some (.int (10 ^ 30) t)
  wh : ∃ (fW : Addr) (fdW : FuncData), At K mg "is_whole" sWh ["value"] fW fdW
  bet : At K mg "is_between" sBet ["value", "low", "high"] fB fdB
  isg : At K mg "is_gap" sGap ["value"] fG fdG
  bad : ExTxt pr K mg "BadPlan" "place" "this is no plan" C fI
section
variable {P : Program} {w : World} {K : PySem.W.Frag} {mg : Str → Option Value} {base : Heap} {C fI fB fG : Addr} {fdB fdG : FuncData}
theorem scGap : FnScope ["value"] ["value"] (defScope sGap) := ⟨rfl, rfl, rfl, by decide +kernel, rfl, by decide +kernel, by decide +kernel⟩
theorem ok_gap {f : Addr} {fd : FuncData} (F : Fun K "is_gap" "is_gap" sGap f fd) (T : TxN P K mg C fI fB fG fdB fdG) : FnOk P w K mg base CX0 3 f fd ["value"] spGap := by
  have GB : FnOk P w K mg base CX0 2 fB fdB ["value", "low", "high"] spBet := ok_bet T.bet.F T.ti T.wh
  obtain ⟨tg, hg⟩ := T.gap
  refine F.ok scGap (fun vs H Q E h => ?_) (fun cdv A outer s H vs Q E hr h => ?_)
  · obtain ⟨v, d, rfl, _⟩ := h
    rfl
  · obtain ⟨v, d, rfl, hd, q⟩ := h
    refine ⟨_, pss_one (ps_ret (pe_call GB hr rfl T.bet.g T.bet.F.kp T.bet.b .nil pass0 (pa_cons (pv 0) (pa_cons pe_int (pa_cons (pe_glob (v := .int (10 ^ 30)) rfl hg ⟨_, rfl⟩) pa_nil))))), ?_⟩
    exact ⟨_, rfl, v, d, 1, 10 ^ 30, rfl, hd, q⟩
theorem scNeed : FnScope ["thing", "hands", "gaps", "number", "gap"] ["thing"] (defScope sNeed) := ⟨rfl, rfl, rfl, by decide +kernel, rfl, by decide +kernel, by decide +kernel⟩
theorem ok_need {f : Addr} {fd : FuncData} (F : Fun K "need_plan" "need_plan" sNeed f fd) (T : TxN P K mg C fI fB fG fdB fdG) : FnOk P w K mg base (L2.CX P w) 4 f fd ["thing"] (spNeed C) := by
  have GB : FnOk P w K mg base CX0 2 fB fdB ["value", "low", "high"] spBet := ok_bet T.bet.F T.ti T.wh
  have GG : FnOk P w K mg base CX0 3 fG fdG ["value"] spGap := ok_gap T.isg.F T
  obtain ⟨th, hh⟩ := T.hands
  obtain ⟨tt, ht⟩ := T.things
  refine F.okX scNeed (fun vs H Q E h => ?_) (fun cdv A outer s H vs Q E hr h => ?_)
  · obtain ⟨v, d, rfl, _⟩ := h
    rfl
  · obtain ⟨v, d, rfl, hd, kq, ke⟩ := h
    have nd := scNeed.nd
    have hr1 : Room 2 _ := hr.mono (by decide)
    have hr2 : Room 3 _ := hr.mono (by decide)
    refine ⟨_, pss_cons (ps_if (PW.pt (pw_or (pt_not (pt_val (pe_callB call_isi (by rfl) T.ti.isinstance (by decide +kernel) (pa_cons (pv 0) (pa_cons (pe_bltn (v := .ty "tuple") (by rfl) T.tuple (by decide +kernel) rfl) pa_nil)))))
          (pw_or1 (pt_cmpR op_ne (pe_callB call_len_seq (by rfl) T.len PySem.boot_len (pa_cons (pv 0) pa_nil)) pe_int (nomark _)))))
        (pss_one (ps_raiseEx rfl T.bad hr (takes_of rfl rfl rfl rfl) (by exact (pa_cons (pe_tup pa_nil) pa_nil)) rfl)) pss_nil)
      (pss_cons (ps_asg (pv 0) (pg_tup (by rfl) (pgs_cons (pg_name (i := 1) nd rfl (.inl rfl)) (pgs_cons (pg_name (i := 2) nd rfl (.inl rfl)) pgs_nil))))
      (pss_cons (ps_if (pt_not (pt_val (pe_call GB hr1 rfl T.bet.g T.bet.F.kp T.bet.b .nil pass0 (pa_cons (pv 1) (pa_cons pe_int (pa_cons (pe_glob (v := .int 3) rfl hh ⟨_, rfl⟩) pa_nil))))))
        (pss_one (ps_raiseEx rfl T.bad hr (takes_of rfl rfl rfl rfl) (by exact (pa_cons (pe_tup (pa_cons pe_int pa_nil)) pa_nil)) rfl)) pss_nil)
      (pss_cons (ps_if (PW.pt (pw_or (pt_not (pt_val (pe_callB call_isi (by rfl) T.ti.isinstance (by decide +kernel) (pa_cons (pv 2) (pa_cons (pe_bltn (v := .ty "tuple") (by rfl) T.tuple (by decide +kernel) rfl) pa_nil)))))
          (pw_or1 (pt_not (pt_val (pe_call GB hr1 rfl T.bet.g T.bet.F.kp T.bet.b .nil pass0 (pa_cons (pe_callB call_len_seq (by rfl) T.len PySem.boot_len (pa_cons (pv 2) pa_nil)) (pa_cons pe_int (pa_cons (pe_glob (v := .int 8) rfl ht ⟨_, rfl⟩) pa_nil)))))))))
        (pss_one (ps_raiseEx rfl T.bad hr (takes_of rfl rfl rfl rfl) (by exact (pa_cons (pe_tup (pa_cons pe_int pa_nil)) pa_nil)) rfl)) pss_nil)
      (pss_cons (ps_for (passes_of rfl) rfl (pi_enT (by rfl) T.enumerate (pa_cons (pv 2) pa_nil)) (pg_tup (by rfl) (pgs_cons (pg_name (i := 3) nd rfl (.inl rfl)) (pgs_cons (pg_name (i := 4) nd rfl (.inl rfl)) pgs_nil)))
        (pss_one (ps_if (pt_not (pt_val (pe_call GG hr2 rfl T.isg.g T.isg.F.kp T.isg.b .nil pass0 (pa_cons (pv 4) pa_nil))))
          (pss_one (ps_raiseEx rfl T.bad hr (takes_of rfl rfl rfl rfl) (by exact (pa_cons (pe_tup (pa_cons pe_int (pa_cons (pv 3) pa_nil))) pa_nil)) rfl)) pss_nil)))
      (pss_one (ps_ret (pv 0))))))), ?_⟩
    refine ⟨_, rfl, _, _, _, _, _, rfl, .ty _, hd.ty, kit_ty (kit_tuple d), _, rfl, ?_⟩
    have odd : (∀ ds, d ≠ .tuple ds) → ∀ p, H p = none → ∀ dd, upd H p (.tup []) dd = none → E (.ref C) (some dd) (upd (upd H p (.tup [])) dd (.xd [("place", .ref p)])) := by
      intro h p hp dd hdd
      obtain ⟨q1, q2⟩ := fin_raise (pl := []) (fs := [("place", .ref p)]) (Same.refl H) hp hdd
      exact ke [] _ dd _ (plc_kind h) q1 upd_same q2
    cases hd with
    | non => exact iteT (iteT ⟨Nat.zero_le _, fun p hp => ⟨_, rfl, fun dd hdd => odd (fun _ z => by cases z) p hp dd hdd⟩⟩)
    | bl b => exact iteT (iteT ⟨Nat.zero_le _, fun p hp => ⟨_, rfl, fun dd hdd => odd (fun _ z => by cases z) p hp dd hdd⟩⟩)
    | int i => exact iteT (iteT ⟨Nat.zero_le _, fun p hp => ⟨_, rfl, fun dd hdd => odd (fun _ z => by cases z) p hp dd hdd⟩⟩)
    | str x => exact iteT (iteT ⟨Nat.zero_le _, fun p hp => ⟨_, rfl, fun dd hdd => odd (fun _ z => by cases z) p hp dd hdd⟩⟩)
    | lst e r => exact iteT (iteT ⟨Nat.zero_le _, fun p hp => ⟨_, rfl, fun dd hdd => odd (fun _ z => by cases z) p hp dd hdd⟩⟩)
    | dic e r => exact iteT (iteT ⟨Nat.zero_le _, fun p hp => ⟨_, rfl, fun dd hdd => odd (fun _ z => by cases z) p hp dd hdd⟩⟩)
    | tup e r =>
      rename_i a xs ds
      refine iteF ?_
      refine ⟨_, rfl, a, _, rfl, .inr (SqT.of e), rfl, _, rfl, ?_⟩
      have hl := r.length
      by_cases h2 : ds.length = 2
      · obtain ⟨d0, d1, rfl⟩ : ∃ d0 d1, ds = [d0, d1] := by
          match ds, h2 with
          | [d0, d1], _ => exact ⟨d0, d1, rfl⟩
        cases r with
        | cons r0 r1 =>
          rename_i v0 vs0
          cases r1 with
          | cons r1 r2 =>
            rename_i v1 vs1
            cases r2
            refine iteNS rfl ?_
            -- hands, gaps = thing
            refine ⟨_, rfl, a, _, rfl, SqT.of e, rfl, ?_⟩
            refine ⟨v0, _, rfl, v1, _, rfl, rfl, ?_⟩
            -- if not is_between(hands, 1, MOST_HANDS)
            refine ⟨_, rfl, v0, d0, 1, 3, rfl, r0, _, rfl, ?_⟩
            have ez := plc_two d0 d1
            rcases hb : betw d0 1 3 with _ | _
            · rw [hb] at ez
              refine iteT ⟨(by show 1 ≤ sizeLine; decide), fun p hp => ⟨_, rfl, fun dd hdd => ?_⟩⟩
              obtain ⟨q1, q2⟩ := fin_raise (pl := [0]) (fs := [("place", .ref p)]) (Same.refl H) hp hdd
              exact ke [0] _ dd _ ez q1 upd_same q2
            rw [hb] at ez
            have ez' : plc (.tuple [d0, d1]) = plcG d1 := ez
            refine iteF ?_
            -- if not isinstance(gaps, tuple) or not is_between(len(gaps), 1, MOST_THINGS)
            have one : plcG d1 = some [1] → ∀ p, H p = none → ∀ dd, upd H p (.tup [.int 1]) dd = none → E (.ref C) (some dd) (upd (upd H p (.tup [.int 1])) dd (.xd [("place", .ref p)])) := by
              intro h p hp dd hdd
              obtain ⟨q1, q2⟩ := fin_raise (pl := [1]) (fs := [("place", .ref p)]) (Same.refl H) hp hdd
              exact ke [1] _ dd _ (ez'.trans h) q1 upd_same q2
            refine ⟨_, rfl, _, _, _, _, _, rfl, .ty _, r1.ty, kit_ty (kit_tuple d1), _, rfl, ?_⟩
            have two : (1 : Nat) ≤ sizeLine := by decide
            cases r1 with
            | non => exact iteT (iteT ⟨two, fun p hp => ⟨_, rfl, fun dd hdd => one rfl p hp dd hdd⟩⟩)
            | bl b => exact iteT (iteT ⟨two, fun p hp => ⟨_, rfl, fun dd hdd => one rfl p hp dd hdd⟩⟩)
            | int i => exact iteT (iteT ⟨two, fun p hp => ⟨_, rfl, fun dd hdd => one rfl p hp dd hdd⟩⟩)
            | str x => exact iteT (iteT ⟨two, fun p hp => ⟨_, rfl, fun dd hdd => one rfl p hp dd hdd⟩⟩)
            | lst e r => exact iteT (iteT ⟨two, fun p hp => ⟨_, rfl, fun dd hdd => one rfl p hp dd hdd⟩⟩)
            | dic e r => exact iteT (iteT ⟨two, fun p hp => ⟨_, rfl, fun dd hdd => one rfl p hp dd hdd⟩⟩)
            | tup eb rb =>
              rename_i b ys gs
              have hlb := rb.length
              refine iteF ?_
              refine ⟨_, rfl, b, _, rfl, .inr (SqT.of eb), .int (ys.length : Nat), .int (ys.length : Nat), 1, 8, rfl, .int _, _, rfl, ?_⟩
              have eg : plcG (.tuple gs) = if 1 ≤ gs.length ∧ gs.length ≤ 8 then badGap 0 gs else some [1] := rfl
              by_cases h8 : 1 ≤ gs.length ∧ gs.length ≤ 8
              · rw [if_pos h8] at eg
                have hbt : betw (.int (ys.length : Nat)) 1 8 = true := by
                  show (decide ((1 : Int) ≤ (ys.length : Nat)) && decide (((ys.length : Nat) : Int) ≤ 8)) = true
                  rw [decide_eq_true (by omega), decide_eq_true (by omega)]
                  rfl
                rw [hbt]
                refine iteF ?_
                -- the gaps
                refine ⟨_, rfl, b, _, rfl, SqT.of eb, for_it walk_enT (fun i σ H' => ∃ n g : Option V, σ = [some (.ref a), some v0, some (.ref b), n, g] ∧ Same H H' ∧ badGap 0 gs = badGap i (gs.drop i))
                  ⟨none, none, rfl, Same.refl H, rfl⟩ (fun i σ H' _ ⟨_, _, _, s1, _⟩ => SqT.of (s1 _ _ eb)) ?_ ?_⟩
                · rintro i x σ H1 H2 hi ⟨n, g, rfl, s1, eb1⟩ ⟨T0, x0, y0, rfl, hT, rfl, ex, ey⟩
                  cases ex
                  obtain ⟨dg, hdg, rg⟩ := rb.get ey
                  have s2 : Same H (upd H1 T0 (.tup [.int (i : Nat), y0])) := s1.trans (Same.new hT)
                  refine ⟨T0, _, rfl, SqT.of upd_same, rfl, _, _, rfl, _, _, rfl, rfl, ?_⟩
                  refine ⟨_, rfl, y0, dg, rfl, s2.da rg, _, rfl, ?_⟩
                  rw [badGap_step hdg] at eb1
                  rcases hbg : betw dg 1 bigGap with _ | _
                  · rw [hbg] at eb1
                    refine iteT ⟨_, rfl, (by show 2 ≤ sizeLine; decide), fun p hp => ⟨_, rfl, fun dd hdd => ?_⟩⟩
                    obtain ⟨q1, q2⟩ := fin_raise (pl := [1, (i : Int)]) (fs := [("place", .ref p)]) s2 hp hdd
                    exact ke [1, (i : Int)] _ dd _ (ez'.trans (eg.trans eb1)) q1 upd_same q2
                  · rw [hbg] at eb1
                    refine iteF ?_
                    exact ⟨_, _, rfl, s2, eb1⟩
                · rintro σ H1 ⟨n, g, rfl, s1, eb1⟩
                  refine ⟨_, rfl, kq _ (ez'.trans (eg.trans (eb1.trans ?_))) s1⟩
                  rw [hlb, List.drop_length]
                  rfl
              · rw [if_neg h8] at eg
                have hbt : betw (.int (ys.length : Nat)) 1 8 = false := by
                  show (decide ((1 : Int) ≤ (ys.length : Nat)) && decide (((ys.length : Nat) : Int) ≤ 8)) = false
                  by_cases g1 : (1 : Int) ≤ (ys.length : Nat)
                  · rw [decide_eq_true g1, decide_eq_false (by omega)]
                    rfl
                  · rw [decide_eq_false g1]
                    rfl
                rw [hbt]
                exact iteT ⟨two, fun p hp => ⟨_, rfl, fun dd hdd => one eg p hp dd hdd⟩⟩
      · have hne : ¬ (V.int ((xs.length : Nat) : Int)) = V.int 2 := fun z => by
          have z' := V.int.inj z
          omega
        rw [decide_eq_false hne]
        refine iteT ⟨Nat.zero_le _, fun p hp => ⟨_, rfl, fun dd hdd => ?_⟩⟩
        obtain ⟨q1, q2⟩ := fin_raise (pl := []) (fs := [("place", .ref p)]) (Same.refl H) hp hdd
        exact ke [] _ dd _ (plc_short h2) q1 upd_same q2
end
end K1
set_option Elab.async false
set_option linter.all false
set_option maxRecDepth 100000
set_option maxHeartbeats 4000000
namespace Gd
open PySem L2
theorem dp_ints {K : PySem.W.Frag} {H : Hp} : ∀ ps : List Int, DpAll K H (ps.map V.int) (ps.map PyData.int)
  | [] => .nil
  | i :: r => .cons (.int i) (dp_ints r)
end Gd
namespace K1
open PySem L2 Gd PySem.ExG
def bads : Nat → List PyData → List Int
  | _, [] => []
  | i, d :: ds => if betw d 1 bigGap = true then bads (i + 1) ds else (i : Int) :: bads (i + 1) ds
theorem bads_step {gs : List PyData} {i : Nat} {d : PyData} (h : gs[i]? = some d) : bads i (gs.drop i) = if betw d 1 bigGap = true then bads (i + 1) (gs.drop (i + 1)) else (i : Int) :: bads (i + 1) (gs.drop (i + 1)) := by
  obtain ⟨hi, e⟩ := List.getElem?_eq_some_iff.mp h
  rw [List.drop_eq_getElem_cons hi, e]
  rfl
def plOf : List Int → Option (List Int)
  | [] => none
  | j :: _ => some [1, j]
theorem badGap_bads : ∀ (i : Nat) (gs : List PyData), badGap i gs = plOf (bads i gs)
  | _, [] => rfl
  | i, d :: ds => by
    unfold badGap bads
    rcases h : betw d 1 bigGap with _ | _
    · rfl
    · exact badGap_bads (i + 1) ds
/-- _law_wrong(thing): the place in a tuple, or None -/
def spWrong : Sp := fun vs H Q _ => ∃ (v : V) (d : PyData), vs = [v] ∧ Da H v d ∧ ∀ (r : V) (H' : Hp), Same H H' → (match plc d with | none => r = .non | some p => Da H' r (plD p)) → Q r H'
structure TxW (K : PySem.W.Frag) (mg : Str → Option Value) (fB : Addr) (fdB : FuncData) : Prop where
  ti : TxI mg
  tuple : mg "tuple" = none
  len : mg "len" = none
  enumerate : mg "enumerate" = none
  isi : At K mg "_law_is_int" sIsInt ["thing", "least", "most"] fB fdB
section
variable {P : Program} {w : World} {K : PySem.W.Frag} {mg : Str → Option Value} {base : Heap} {fB : Addr} {fdB : FuncData}
theorem scWrong : FnScope ["thing", "bad", "spot", "item"] ["thing"] (defScope sWrong) := ⟨rfl, rfl, rfl, by decide +kernel, rfl, by decide +kernel, by decide +kernel⟩
theorem ok_wrong {f : Addr} {fd : FuncData} (F : Fun K "_law_wrong" "_law_wrong" sWrong f fd) (T : TxW K mg fB fdB) : FnOk P w K mg base CX0 2 f fd ["thing"] spWrong := by
  have GB : FnOk P w K mg base CX0 1 fB fdB ["thing", "least", "most"] spBet := ok_isint T.isi.F T.ti
  refine F.ok scWrong (fun vs H Q E h => ?_) (fun cdv A outer s H vs Q E hr h => ?_)
  · obtain ⟨v, d, rfl, _⟩ := h
    rfl
  · obtain ⟨v, d, rfl, hd, kq⟩ := h
    have nd := scWrong.nd
    refine ⟨_, pss_cons (ps_if (PW.pt (pw_or (pt_not (pt_val (pe_callB call_isi (by rfl) T.ti.isinstance (by decide +kernel) (pa_cons (pv 0) (pa_cons (pe_bltn (v := .ty "tuple") (by rfl) T.tuple (by decide +kernel) rfl) pa_nil)))))
          (pw_or1 (pt_cmpR op_ne (pe_callB call_len_seq (by rfl) T.len PySem.boot_len (pa_cons (pv 0) pa_nil)) pe_int (nomark _)))))
        (pss_one (ps_ret (pe_tup pa_nil))) pss_nil)
      (pss_cons (ps_if (pt_not (pt_val (pe_call GB hr rfl T.isi.g T.isi.F.kp T.isi.b .nil pass0 (pa_cons (pe_ix ix_tup (pv 0) pe_int (fun _ _ => rfl)) (pa_cons pe_int (pa_cons pe_int pa_nil))))))
        (pss_one (ps_ret (pe_tup (pa_cons pe_int pa_nil)))) pss_nil)
      (pss_cons (ps_if (PW.pt (pw_or (pt_not (pt_val (pe_callB call_isi (by rfl) T.ti.isinstance (by decide +kernel) (pa_cons (pe_ix ix_tup (pv 0) pe_int (fun _ _ => rfl)) (pa_cons (pe_bltn (v := .ty "tuple") (by rfl) T.tuple (by decide +kernel) rfl) pa_nil)))))
          (pw_or1 (pt_not (pt_chain op_le op_le pe_int (pe_callB call_len_seq (by rfl) T.len PySem.boot_len (pa_cons (pe_ix ix_tup (pv 0) pe_int (fun _ _ => rfl)) pa_nil)) pe_int)))))
        (pss_one (ps_ret (pe_tup (pa_cons pe_int pa_nil)))) pss_nil)
      (pss_cons (ps_setLc (i := 1) (own := [("spot", 2), ("item", 3)]) (g := gTup K 2 (gCons (gName 2) (gCons (gName 3) gNil))) rfl nd rfl rfl (sw_true rfl rfl rfl (by decide +kernel)) (pi_enT (by rfl) T.enumerate (pa_cons (pe_ix ix_tup (pv 0) pe_int (fun _ _ => rfl)) pa_nil))
          (blkOk_by (N := ["thing", "bad", "spot", "item"]) (sc := defScope sWrong) (by decide +kernel))
          (fun _ _ _ _ _ => by exact (pg_tup (by rfl) (pgs_cons (pg_name (i := 2) nd rfl (Or.inl rfl)) (pgs_cons (pg_name (i := 3) nd rfl (Or.inl rfl)) pgs_nil))))
          (fun _ _ _ _ _ => pts_one (pt_not (pt_val (pe_call GB hr rfl T.isi.g T.isi.F.kp T.isi.b .nil pass0 (pa_cons (pv 3) (pa_cons pe_int (pa_cons (pe_op op_pow pe_int pe_int) pa_nil)))))))
          (fun _ _ _ _ _ => pv 2))
      (pss_one (ps_ret (pe_ifExp (pt_cmpR (op_neD hr.units) (pv 1) (pe_lst pa_nil) (nomark _)) (pe_tup (pa_cons pe_int (pa_cons (pe_ix ix_list (pv 1) pe_int (fun _ _ => rfl)) pa_nil))) pe_non)))))), ?_⟩
    have kS : ∀ (p : List Int) (r : V) (H' : Hp), plc d = some p → Same H H' → Da H' r (plD p) → Q r H' := fun p r H' e s q => kq r H' s (by rw [e]; exact q)
    have kN : ∀ (H' : Hp), plc d = none → Same H H' → Q .non H' := fun H' e s => kq .non H' s (by rw [e])
    have done : ∀ (pl : List Int) (H1 : Hp) (p : Addr), Same H H1 → H1 p = none → plc d = some pl → Q (.ref p) (upd H1 p (.tup (pl.map V.int))) := fun pl H1 p s1 hp e =>
      kS pl _ _ e (s1.trans (Same.new hp)) (.tup upd_same (da_ints pl))
    refine ⟨_, rfl, _, _, _, _, _, rfl, .ty _, hd.ty, kit_ty (kit_tuple d), _, rfl, ?_⟩
    cases hd with
    | non => exact iteT (iteT ⟨Nat.zero_le _, fun p hp => done [] H p (Same.refl H) hp (plc_kind fun _ z => by cases z)⟩)
    | bl b => exact iteT (iteT ⟨Nat.zero_le _, fun p hp => done [] H p (Same.refl H) hp (plc_kind fun _ z => by cases z)⟩)
    | int i => exact iteT (iteT ⟨Nat.zero_le _, fun p hp => done [] H p (Same.refl H) hp (plc_kind fun _ z => by cases z)⟩)
    | str x => exact iteT (iteT ⟨Nat.zero_le _, fun p hp => done [] H p (Same.refl H) hp (plc_kind fun _ z => by cases z)⟩)
    | lst e r => exact iteT (iteT ⟨Nat.zero_le _, fun p hp => done [] H p (Same.refl H) hp (plc_kind fun _ z => by cases z)⟩)
    | dic e r => exact iteT (iteT ⟨Nat.zero_le _, fun p hp => done [] H p (Same.refl H) hp (plc_kind fun _ z => by cases z)⟩)
    | tup e r =>
      rename_i a xs ds
      refine iteF ?_
      refine ⟨_, rfl, a, _, rfl, .inr (SqT.of e), rfl, _, rfl, ?_⟩
      have hl := r.length
      by_cases h2 : ds.length = 2
      · obtain ⟨d0, d1, rfl⟩ : ∃ d0 d1, ds = [d0, d1] := by
          match ds, h2 with
          | [d0, d1], _ => exact ⟨d0, d1, rfl⟩
        cases r with
        | cons r0 r1 =>
          rename_i v0 vs0
          cases r1 with
          | cons r1 r2 =>
            rename_i v1 vs1
            cases r2
            have i0 : atI [v0, v1] 0 = some v0 := atI_nat (j := 0) rfl
            have i1 : atI [v0, v1] 1 = some v1 := atI_nat (j := 1) rfl
            have ez := plc_two d0 d1
            have one : (1 : Nat) ≤ sizeLine := by decide
            refine iteNS rfl ?_
            -- if not _law_is_int(thing[0], 1, 3)
            refine ⟨_, rfl, a, _, _, _, rfl, rfl, SqT.of e, i0, v0, d0, 1, 3, rfl, r0, _, rfl, ?_⟩
            rcases hb : betw d0 1 3 with _ | _
            · rw [hb] at ez
              exact iteT ⟨one, fun p hp => done [0] H p (Same.refl H) hp ez⟩
            rw [hb] at ez
            have ez' : plc (.tuple [d0, d1]) = plcG d1 := ez
            refine iteF ?_
            -- if not isinstance(thing[1], tuple) or not 1 <= len(thing[1]) <= 8
            refine ⟨_, rfl, a, _, _, _, rfl, rfl, SqT.of e, i1, _, _, _, _, _, rfl, .ty _, r1.ty, kit_ty (kit_tuple d1), _, rfl, ?_⟩
            cases r1 with
            | non => exact iteT (iteT ⟨one, fun p hp => done [1] H p (Same.refl H) hp ez'⟩)
            | bl b => exact iteT (iteT ⟨one, fun p hp => done [1] H p (Same.refl H) hp ez'⟩)
            | int i => exact iteT (iteT ⟨one, fun p hp => done [1] H p (Same.refl H) hp ez'⟩)
            | str x => exact iteT (iteT ⟨one, fun p hp => done [1] H p (Same.refl H) hp ez'⟩)
            | lst e r => exact iteT (iteT ⟨one, fun p hp => done [1] H p (Same.refl H) hp ez'⟩)
            | dic e r => exact iteT (iteT ⟨one, fun p hp => done [1] H p (Same.refl H) hp ez'⟩)
            | tup eb rb =>
              rename_i b ys gs
              have hlb := rb.length
              have eg : plcG (.tuple gs) = if 1 ≤ gs.length ∧ gs.length ≤ 8 then badGap 0 gs else some [1] := rfl
              refine iteF ?_
              refine ⟨_, rfl, a, _, _, _, rfl, rfl, SqT.of e, i1, b, _, rfl, .inr (SqT.of eb), _, _, rfl, rfl, _, rfl, ?_⟩
              by_cases g1 : (1 : Int) ≤ ((ys.length : Nat) : Int)
              · rw [decide_eq_true g1]
                refine iteT ⟨_, _, rfl, rfl, _, rfl, ?_⟩
                by_cases g2 : ((ys.length : Nat) : Int) ≤ 8
                · rw [decide_eq_true g2]
                  refine iteF ?_
                  rw [if_pos (by omega)] at eg
                  -- bad
                  refine ⟨_, rfl, a, _, _, _, rfl, rfl, SqT.of e, i1, b, _, rfl, SqT.of eb, fun D hD => ?_⟩
                  refine lc_it walk_enT (fun i H' => Same H H' ∧ ∃ acc : List Int, H' D = some (.lst (acc.map V.int)) ∧ acc ++ bads i (gs.drop i) = bads 0 gs ∧ acc.length ≤ i)
                    ⟨Same.new hD, [], upd_same, rfl, Nat.le_refl _⟩ (fun i H' _ ⟨s1, _⟩ => SqT.of (s1 _ _ eb)) ?_ ?_
                  · rintro i x H1 H2 hi ⟨s1, acc, ha, hb1, hc⟩ ⟨T0, x0, y0, rfl, hT, rfl, ex, ey⟩
                    cases ex
                    obtain ⟨dg, hdg, rg⟩ := rb.get ey
                    have s2 : Same H (upd H1 T0 (.tup [.int (i : Nat), y0])) := s1.trans (Same.new hT)
                    have ha2 : upd H1 T0 (.tup [.int (i : Nat), y0]) D = some (.lst (acc.map V.int)) := by rw [upd_ne (ne_of_none ha hT)]; exact ha
                    rw [bads_step hdg] at hb1
                    refine ⟨T0, _, rfl, SqT.of upd_same, rfl, _, _, rfl, _, _, rfl, rfl, rfl, ?_⟩
                    refine ⟨_, rfl, _, _, rfl, rfl, ⟨by decide, by decide, by decide⟩, y0, dg, 1, _, rfl, s2.da rg, _, rfl, ?_⟩
                    rcases hbg : betw dg 1 bigGap with _ | _
                    · have z : betw dg 1 (10 ^ (30 : Int).toNat) = false := hbg
                      rw [z]
                      rw [hbg] at hb1
                      refine iteT ⟨_, rfl, _, ha2, ?_, ?_⟩
                      · rw [List.length_map, sizeLine_eq]
                        omega
                      · refine ⟨fun c o q => ?_, acc ++ [(i : Int)], ?_, ?_, ?_⟩
                        · rw [upd_ne (ne_of_none q hD)]
                          exact s2 c o q
                        · rw [upd_same, List.map_append]
                          rfl
                        · rw [List.append_assoc]
                          exact hb1
                        · rw [List.length_append]
                          exact Nat.succ_le_succ hc
                    · have z : betw dg 1 (10 ^ (30 : Int).toNat) = true := hbg
                      rw [z]
                      rw [hbg] at hb1
                      exact iteF ⟨s2, acc, ha2, hb1, Nat.le_succ_of_le hc⟩
                  · rintro H1 ⟨s1, acc, ha, hb1, hc⟩
                    rw [hlb, List.drop_length] at hb1
                    have hb2 : acc = bads 0 gs := by
                      rw [← hb1]
                      exact (List.append_nil acc).symm
                    have hfin : plc (.tuple [d0, .tuple gs]) = plOf acc := by
                      rw [ez', eg, badGap_bads, hb2]
                    refine ⟨_, rfl, Nat.zero_le _, fun p hp => ?_⟩
                    refine ⟨.list (acc.map .int), .list [], .lst (SqL.of (by rw [upd_ne (ne_of_none ha hp)]; exact ha)) (dp_ints acc), .lst (SqL.of upd_same) .nil, PySem.W.ke_shaped_ints acc, PySem.W.ke_shaped_ints [], _, rfl, ?_⟩
                    cases acc with
                    | nil => exact iteF (kN _ hfin (s1.trans (Same.new hp)))
                    | cons j acc =>
                      refine iteT ⟨_, rfl, D, _, _, _, rfl, rfl, SqL.of (by rw [upd_ne (ne_of_none ha hp)]; exact ha), atI_nat (j := 0) rfl, (by show 2 ≤ sizeLine; decide), fun q hq => ?_⟩
                      exact done [1, j] _ q (s1.trans (Same.new hp)) hq hfin
                · rw [decide_eq_false g2]
                  rw [if_neg (by omega)] at eg
                  exact iteT ⟨one, fun p hp => done [1] H p (Same.refl H) hp (ez'.trans eg)⟩
              · rw [decide_eq_false g1]
                rw [if_neg (by omega)] at eg
                refine iteF ⟨_, rfl, ?_⟩
                exact iteT ⟨one, fun p hp => done [1] H p (Same.refl H) hp (ez'.trans eg)⟩
      · have hne : ¬ (V.int ((xs.length : Nat) : Int)) = V.int 2 := fun z => by
          have z' := V.int.inj z
          omega
        rw [decide_eq_false hne]
        exact iteT ⟨Nat.zero_le _, fun p hp => done [] H p (Same.refl H) hp (plc_short h2)⟩
end
end K1
set_option Elab.async false
set_option linter.all false
set_option maxRecDepth 100000
set_option maxHeartbeats 4000000
namespace K1
open PySem L2 Gd PySem.ExG
/-- what _law_said tells -/
def saidOf (d : PyData) : Option (List Int) → PyData
  | none => .list [d]
  | some p => .tuple [.str "bad", plD p]
def saidD (d : PyData) : PyData := saidOf d (plc d)
def spSaid : Sp := fun vs H Q _ => ∃ (v : V) (d : PyData), vs = [v] ∧ Da H v d ∧ ∀ (r : V) (H' : Hp), Same H H' → Da H' r (saidD d) → Q r H'
structure TxS (pr : Program) (K : PySem.W.Frag) (mg : Str → Option Value) (C fI fB fG fN : Addr) (fdB fdG fdN : FuncData) : Prop where
  tn : TxN pr K mg C fI fB fG fdB fdG
  need : At K mg "need_plan" sNeed ["thing"] fN fdN
def t_suite (C : Addr) : Addr → Value → Option Addr → TS := fun a cls d => tAsg (tTup (tCons (tC (.str "bad")) (tCons (tByEx C "place" a cls d (tVar 2)) tNil))) (gName 1)
section
variable {P : Program} {w : World} {K : PySem.W.Frag} {mg : Str → Option Value} {base : Heap} {C fI fB fG fN : Addr} {fdB fdG fdN : FuncData}
theorem scSaid : FnScope ["thing", "found", "e"] ["thing"] (defScope sSaid) := ⟨rfl, rfl, rfl, by decide +kernel, rfl, by decide +kernel, by decide +kernel⟩
theorem ok_said {f : Addr} {fd : FuncData} (F : Fun K "_law_said" "_law_said" sSaid f fd) (T : TxS P K mg C fI fB fG fN fdB fdG fdN) : FnOk P w K mg base CX0 6 f fd ["thing"] spSaid := by
  have GN : FnOk P w K mg base (L2.CX P w) 4 fN fdN ["thing"] (spNeed C) := ok_need T.need.F T.tn
  refine F.ok scSaid (fun vs H Q E h => ?_) (fun cdv A outer s H vs Q E hr h => ?_)
  · obtain ⟨v, d, rfl, _⟩ := h
    rfl
  · obtain ⟨v, d, rfl, hd, kq⟩ := h
    have nd := scSaid.nd
    have hr1 : Room 4 _ := hr.mono (by decide)
    refine ⟨_, pss_cons (ps_set (i := 1) nd rfl (Or.inl rfl) pe_non)
      (pss_cons (ps_try_as (i := 2) (tb := fun W => tAsg (tLst (tCons (tCallS (spNeed C) (WE W) (tCons (tVar 0) tNil)) tNil)) (gName 1)) (ts := t_suite C) (Wout := fun _ _ _ _ => False) rfl rfl nd rfl rfl ⟨rfl, by decide, Or.inl T.tn.bad.gC⟩ takes0
          (fun W pn xe tk _ => pss_one (ps_set (i := 1) nd rfl (Or.inl rfl) (by exact (pe_lst (pa_cons (pe_callS GN hr1 rfl T.need.g T.need.F.kp T.need.b (fun σ => passAt tk σ) (by exact (pa_cons (pv 0) pa_nil))) pa_nil)))))
          (fun a oe cls d pn hz hf => pss_one (ps_set (i := 1) nd rfl (Or.inl rfl) (by exact (pe_tup (pa_cons pe_str (pa_cons (pe_byEx T.tn.bad hz hf (pv 2)) pa_nil)))))))
      (pss_one (ps_ret (pv 1)))), ?_⟩
    refine ⟨_, rfl, v, d, rfl, hd, fun H1 e s1 => ?_, fun p pw dd H1 e s1 hx hp => ?_⟩
    · refine ⟨(by show 1 ≤ sizeLine; decide), fun q hq => ?_⟩
      have es : saidD d = .list [d] := by
        unfold saidD
        rw [e]
        rfl
      refine ⟨_, rfl, kq _ _ (s1.trans (Same.new hq)) ?_⟩
      rw [es]
      exact .lst upd_same (.cons ((Same.new hq).da (s1.da hd)) .nil)
    · refine ⟨true, T.tn.bad.te, fun _ a0 _ => ?_, fun q => Bool.noConfusion q⟩
      refine ⟨_, rfl, rfl, rfl, dd, _, rfl, hx, (by show 2 ≤ sizeLine; decide), fun q hq => ?_⟩
      have es : saidD d = .tuple [.str "bad", plD p] := by
        unfold saidD
        rw [e]
        rfl
      refine ⟨_, rfl, kq _ _ (s1.trans (Same.new hq)) ?_⟩
      rw [es]
      exact .tup upd_same (.cons (.str _) (.cons ((Same.new hq).da hp) .nil))
end
end K1
set_option Elab.async false
set_option linter.all false
set_option maxRecDepth 100000
set_option maxHeartbeats 4000000
namespace K1
open PySem L2 Gd PySem.ExG
theorem badGap_some : ∀ {gs : List PyData} {i : Nat} {p : List Int}, badGap i gs = some p → ∃ j : Nat, p = [1, (j : Int)] ∧ j < i + gs.length
  | [], i, p, h => by cases h
  | d :: ds, i, p, h => by
    unfold badGap at h
    rcases hb : betw d 1 bigGap with _ | _
    · rw [hb] at h
      have h' : some [1, (i : Int)] = some p := h
      cases h'
      exact ⟨i, rfl, by simp⟩
    · rw [hb] at h
      obtain ⟨j, e, hj⟩ := badGap_some (gs := ds) (i := i + 1) h
      exact ⟨j, e, by simp only [List.length_cons]; omega⟩
theorem plc_some {d : PyData} {p : List Int} (h : plc d = some p) : p = [] ∨ p = [0] ∨ p = [1] ∨ ∃ j : Nat, p = [1, (j : Int)] ∧ j < 8 := by
  by_cases z : plc d = some []
  · rw [z] at h
    exact .inl (Option.some.inj h).symm
  · cases d with
    | tuple ds =>
      by_cases h2 : ds.length = 2
      · obtain ⟨d0, d1, rfl⟩ : ∃ d0 d1, ds = [d0, d1] := by
          match ds, h2 with
          | [d0, d1], _ => exact ⟨d0, d1, rfl⟩
        rw [plc_two] at h
        rcases hb : betw d0 1 3 with _ | _
        · rw [hb] at h
          have h' : some [0] = some p := h
          cases h'
          exact .inr (.inl rfl)
        · rw [hb] at h
          have h' : plcG d1 = some p := h
          by_cases g : plcG d1 = some [1]
          · rw [g] at h'
            cases h'
            exact .inr (.inr (.inl rfl))
          · cases d1 with
            | tuple gs =>
              have eg : plcG (.tuple gs) = if 1 ≤ gs.length ∧ gs.length ≤ 8 then badGap 0 gs else some [1] := rfl
              by_cases h8 : 1 ≤ gs.length ∧ gs.length ≤ 8
              · rw [eg, if_pos h8] at h'
                obtain ⟨j, e, hj⟩ := badGap_some h'
                exact .inr (.inr (.inr ⟨j, e, by omega⟩))
              · rw [eg, if_neg h8] at g
                exact absurd rfl g
            | _ => exact absurd rfl g
      · exact absurd (plc_short h2) z
    | _ => exact absurd rfl z
theorem sm_ints {ps : List Int} (h : ∀ i ∈ ps, i.natAbs < 2 ^ 1920) : SmL 1921 0 (ps.map PyData.int) := ⟨fun d hd => by
  obtain ⟨i, hi, rfl⟩ := List.mem_map.mp hd
  exact sm_int (h i hi)⟩
theorem small_nat {i : Int} (h0 : 0 ≤ i) (h1 : i < 1000) : i.natAbs < 2 ^ 1920 :=
  Nat.lt_trans (show i.natAbs < 2 ^ 10 by omega) (Nat.pow_lt_pow_right (by decide) (by decide))
theorem sm_plc {d : PyData} {p : List Int} (h : plc d = some p) : Sm 5000 1 (plD p) := by
  have key : ∀ ps : List Int, ps.length ≤ 2 → (∀ i ∈ ps, 0 ≤ i ∧ i < 1000) → Sm 5000 1 (plD ps) := fun ps h1 h2 => by
    have z := sm_tup (sm_ints (ps := ps) fun i hi => small_nat (h2 i hi).1 (h2 i hi).2)
    refine z.up ?_ (Nat.le_refl _)
    rw [List.length_map]
    omega
  rcases plc_some h with rfl | rfl | rfl | ⟨j, rfl, hj⟩
  · exact key _ (by decide) (fun i hi => by cases hi)
  · exact key _ (by decide) (fun i hi => by simp at hi; subst hi; decide)
  · exact key _ (by decide) (fun i hi => by simp at hi; subst hi; decide)
  · refine key _ (by simp) (fun i hi => ?_)
    simp at hi
    rcases hi with rfl | rfl
    · decide
    · omega
theorem sm_bad : Sm 5000 1 (.str "bad") := (sm_str (n := 5) (by decide +kernel)).up (by decide) (by decide)
theorem sm_said {n k : Nat} {d : PyData} (h : Sm n k d) : Sm (n + 20000) (k + 3) (saidD d) := by
  unfold saidD
  cases e : plc d with
  | none =>
    have z := sm_lst (n := n) (k := k) (ds := [d]) ⟨fun x hx => by simp at hx; subst hx; exact h⟩
    exact z.up (by simp only [List.length_cons, List.length_nil]; omega) (by omega)
  | some p =>
    have z := sm_tup (n := 5000) (k := 1) (ds := [.str "bad", plD p]) ⟨fun x hx => by
      simp at hx
      rcases hx with rfl | rfl
      · exact sm_bad
      · exact sm_plc e⟩
    exact z.up (by simp only [List.length_cons, List.length_nil]; omega) (by omega)
/-- _law_right(thing): True -/
def spRight : Sp := fun vs H Q _ => ∃ (v : V) (d : PyData), vs = [v] ∧ Da H v d ∧ Sm 10000000 20 d ∧ ∀ (H' : Hp), Same H H' → Q (.bl true) H'
structure TxR (pr : Program) (K : PySem.W.Frag) (mg : Str → Option Value) (C fI fB fG fN fL fW fS : Addr) (fdB fdG fdN fdL fdW fdS : FuncData) : Prop where
  ts : TxS pr K mg C fI fB fG fN fdB fdG fdN
  tw : TxW K mg fL fdL
  said : At K mg "_law_said" sSaid ["thing"] fS fdS
  wrong : At K mg "_law_wrong" sWrong ["thing"] fW fdW
  repr : mg "repr" = none
  range : mg "range" = none
section
variable {P : Program} {w : World} {K : PySem.W.Frag} {mg : Str → Option Value} {base : Heap} {C fI fB fG fN fL fW fS : Addr} {fdB fdG fdN fdL fdW fdS : FuncData}
theorem scRight : FnScope ["thing", "kept", "place", "due", "turn"] ["thing"] (defScope sRight) := ⟨rfl, rfl, rfl, by decide +kernel, rfl, by decide +kernel, by decide +kernel⟩
theorem ok_right {f : Addr} {fd : FuncData} (F : Fun K "_law_right" "_law_right" sRight f fd) (T : TxR P K mg C fI fB fG fN fL fW fS fdB fdG fdN fdL fdW fdS) (hb : ∃ o, base.get? sysModules = some o) : FnG P w K mg base CX0 7 f fd ["thing"] spRight := by
  have GS : FnOk P w K mg base CX0 6 fS fdS ["thing"] spSaid := ok_said T.said.F T.ts
  have GW : FnOk P w K mg base CX0 2 fW fdW ["thing"] spWrong := ok_wrong T.wrong.F T.tw
  refine okG F scRight (fun vs H Q E h => ?_) (fun cdv A outer s H vs Q E gA hr h => ?_)
  · obtain ⟨v, d, rfl, _⟩ := h
    rfl
  · obtain ⟨v, d, rfl, hd, sm, kq⟩ := h
    have nd := scRight.nd
    have hr2 : Room 2 _ := hr.mono (by decide)
    have smd : Sm 16000000 30 d := sm.up (by decide) (by decide)
    have sms : Sm 16000000 30 (saidD d) := (sm_said sm).up (by decide) (by decide)
    refine ⟨_, pss_cons (ps_par (i := 1) (j := 2) (by rfl) nd rfl rfl (by decide) rfl rfl (pa_cons (pe_callB (call_repr gA hr.units hb) (by rfl) T.repr (by decide +kernel) (pa_cons (pv 0) pa_nil))
          (pa_cons (pe_call GW hr2 rfl T.wrong.g T.wrong.F.kp T.wrong.b .nil pass0 (pa_cons (pv 0) pa_nil)) pa_nil)) (by rfl))
      (pss_cons (ps_set (i := 3) nd rfl (Or.inl rfl) (pe_ifExp (pt_cmpR op_isN (pv 2) pe_non (nomark _)) (pe_lst (pa_cons (pv 0) pa_nil)) (pe_tup (pa_cons pe_str (pa_cons (pv 2) pa_nil)))))
      (pss_cons (ps_for PassesOwn.never rfl (pi_range1 rfl T.range (pa_cons pe_int pa_nil)) (pg_name (i := 4) nd rfl (Or.inl rfl))
        (pss_one (ps_if (pt_cmpR op_ne (pe_callB (call_repr gA hr.units hb) (by rfl) T.repr (by decide +kernel) (pa_cons (pe_call GS hr rfl T.said.g T.said.F.kp T.said.b .nil pass0 (pa_cons (pv 0) pa_nil)) pa_nil))
            (pe_callB (call_repr gA hr.units hb) (by rfl) T.repr (by decide +kernel) (pa_cons (pv 3) pa_nil)) (nomark _)) (pss_one (ps_ret pe_bl)) pss_nil)))
      (pss_one (ps_ret (pe_cmpR op_eq (pe_callB (call_repr gA hr.units hb) (by rfl) T.repr (by decide +kernel) (pa_cons (pv 0) pa_nil)) (pv 1) (nomark _)))))), ?_⟩
    refine ⟨_, rfl, v, d, rfl, hd, smd, _, rfl, v, d, rfl, hd, fun r H1 s1 hr1 => ?_⟩
    refine ⟨_, _, rfl, ?_⟩
    have hd1 : Da H1 v d := s1.da hd
    -- due
    have rest : ∀ (du : V) (H2 : Hp), Same H H2 → Da H2 du (saidD d) →
        (tSeq (tFor (iRng1 (tCons (tC (.int 2)) tNil)) (gName 4) (tIfS (tTest (tOp rNe (tCB rRepr (tCons (tCall spSaid [] E0 (tCons (tVar 0) tNil)) tNil)) (tCB rRepr (tCons (tVar 3) tNil)))) (tRet (tC (.bl false))) tNext))
          (tRet (tOp rEq (tCB rRepr (tCons (tVar 0) tNil)) (tVar 1)))) { nx := fun _ H' => Q .non H', rt := Q } [some v, some (.str d.shown), some r, some du, none] H2 := by
      intro du H2 s2 hdu
      refine ⟨2, rfl, by decide, by decide, for_range (n := 2) (fun i σ H' => ∃ tn : Option V, σ = [some v, some (.str d.shown), some r, some du, tn] ∧ Same H H' ∧ Same H2 H') ⟨none, rfl, s2, Same.refl _⟩ ?_ ?_⟩
      · rintro i σ H3 hi ⟨tn, rfl, s3, s4⟩
        refine ⟨_, rfl, v, d, rfl, s3.da hd, fun r4 H4 s5 hr4 => ?_⟩
        refine ⟨_, _, rfl, hr4, sms, ?_⟩
        refine ⟨_, rfl, _, _, rfl, (s4.trans s5).da hdu, sms, rfl, _, rfl, ?_⟩
        refine iteNS rfl ?_
        exact ⟨_, rfl, s3.trans s5, s4.trans s5⟩
      · rintro σ H3 ⟨tn, rfl, s3, s4⟩
        refine ⟨_, rfl, v, d, rfl, s3.da hd, smd, _, rfl, rfl, ?_⟩
        have z : decide (V.str d.shown = V.str d.shown) = true := decide_eq_true rfl
        rw [z]
        exact kq H3 s3
    refine ⟨_, rfl, rfl, _, rfl, ?_⟩
    cases e : plc d with
    | none =>
      rw [e] at hr1
      have hr1' : r = .non := hr1
      subst hr1'
      have es : saidD d = .list [d] := by
        unfold saidD
        rw [e]
        rfl
      refine iteT ⟨_, rfl, (by show 1 ≤ sizeLine; decide), fun q hq => ?_⟩
      refine rest _ _ (s1.trans (Same.new hq)) ?_
      rw [es]
      exact .lst upd_same (.cons ((Same.new hq).da hd1) .nil)
    | some p =>
      rw [e] at hr1
      have hr1' : Da H1 r (plD p) := hr1
      have es : saidD d = .tuple [.str "bad", plD p] := by
        unfold saidD
        rw [e]
        rfl
      have nn : ¬ r = .non := fun z => by
        subst z
        unfold plD at hr1'
        cases hr1'
      rw [decide_eq_false nn]
      refine iteF ⟨_, rfl, (by show 2 ≤ sizeLine; decide), fun q hq => ?_⟩
      refine rest _ _ (s1.trans (Same.new hq)) ?_
      rw [es]
      exact .tup upd_same (.cons (.str _) (.cons ((Same.new hq).da hr1') .nil))
end
end K1
set_option Elab.async false
set_option linter.all false
set_option maxRecDepth 100000
set_option maxHeartbeats 4000000
namespace K1
open PySem L2 Gd PySem.ExG
/-- the heap but for m -/
def off (H : Hp) (m : Addr) : Hp := fun b => if b = m then none else H b
theorem off_ne {H : Hp} {m b : Addr} (h : b ≠ m) : off H m b = H b := if_neg h
theorem Grow.off {m : Addr} {H H' : Hp} (g : Grow m H H') : ∀ b o, off H m b = some o → off H' m b = some o := fun b o e => by
  by_cases h : b = m
  · unfold K1.off at e
    rw [if_pos h] at e
    cases e
  · rw [off_ne h] at e ⊢
    exact g b o h e
theorem off_sub {m : Addr} {H : Hp} : ∀ b o, off H m b = some o → H b = some o := fun b o e => by
  by_cases h : b = m
  · unfold K1.off at e
    rw [if_pos h] at e
    cases e
  · rw [off_ne h] at e
    exact e
/-- a thing apart from m, of some size -/
structure Thg (n k : Nat) (H : Hp) (m : Addr) (v : V) : Prop where
  ex : ∃ d, Da (off H m) v d ∧ Sm n k d
theorem Thg.grow {n k : Nat} {H H' : Hp} {m : Addr} {v : V} (t : Thg n k H m v) (g : Grow m H H') : Thg n k H' m v := by
  obtain ⟨d, h1, h2⟩ := t.ex
  exact ⟨d, h1.mono g.off, h2⟩
theorem Thg.up {n k n' k' : Nat} {H : Hp} {m : Addr} {v : V} (t : Thg n k H m v) (h1 : n ≤ n') (h2 : k ≤ k') : Thg n' k' H m v := by
  obtain ⟨d, q1, q2⟩ := t.ex
  exact ⟨d, q1, q2.up h1 h2⟩
/-- a list of things -/
structure ThL (n k : Nat) (H : Hp) (m : Addr) (vs : List V) : Prop where
  all : ∀ v ∈ vs, Thg n k H m v
theorem ThL.grow {n k : Nat} {H H' : Hp} {m : Addr} {vs : List V} (t : ThL n k H m vs) (g : Grow m H H') : ThL n k H' m vs := ⟨fun v hv => (t.all v hv).grow g⟩
theorem ThL.up {n k n' k' : Nat} {H : Hp} {m : Addr} {v : List V} (t : ThL n k H m v) (h1 : n ≤ n') (h2 : k ≤ k') : ThL n' k' H m v := ⟨fun x hx => (t.all x hx).up h1 h2⟩
theorem ThL.append {n k : Nat} {H : Hp} {m : Addr} {xs ys : List V} (a : ThL n k H m xs) (b : ThL n k H m ys) : ThL n k H m (xs ++ ys) := ⟨fun v hv => (List.mem_append.mp hv).elim (a.all v) (b.all v)⟩
theorem ThL.sub {n k : Nat} {H : Hp} {m : Addr} {xs ys : List V} (a : ThL n k H m xs) (h : ∀ v ∈ ys, v ∈ xs) : ThL n k H m ys := ⟨fun v hv => a.all v (h v hv)⟩
theorem ThL.nil {n k : Nat} {H : Hp} {m : Addr} : ThL n k H m [] := ⟨fun v hv => by cases hv⟩
theorem ThL.cons {n k : Nat} {H : Hp} {m : Addr} {v : V} {vs : List V} (a : Thg n k H m v) (b : ThL n k H m vs) : ThL n k H m (v :: vs) := ⟨fun x hx => (List.mem_cons.mp hx).elim (fun e => e ▸ a) (b.all x)⟩
theorem ThL.da {n k : Nat} {H : Hp} {m : Addr} : ∀ {vs : List V}, ThL n k H m vs → ∃ ds, DaL (off H m) vs ds ∧ SmL n k ds ∧ ds.length = vs.length
  | [], _ => ⟨[], .nil, ⟨fun d hd => by cases hd⟩, rfl⟩
  | v :: vs, h => by
    obtain ⟨d, h1, h2⟩ := (h.all v List.mem_cons_self).ex
    obtain ⟨ds, q1, q2, q3⟩ := ThL.da (vs := vs) ⟨fun x hx => h.all x (List.mem_cons_of_mem _ hx)⟩
    exact ⟨d :: ds, .cons h1 q1, ⟨fun x hx => (List.mem_cons.mp hx).elim (fun e => e ▸ h2) (q2.all x)⟩, congrArg (· + 1) q3⟩
theorem th_none {H : Hp} {m : Addr} : Thg 4 0 H m .non := ⟨_, .non, sm_none⟩
theorem th_bool {H : Hp} {m : Addr} (b : Bool) : Thg 5 0 H m (.bl b) := ⟨_, .bl b, sm_bool b⟩
theorem th_int {H : Hp} {m : Addr} {i : Int} (h : i.natAbs < 2 ^ 1920) : Thg 1921 0 H m (.int i) := ⟨_, .int i, sm_int h⟩
theorem th_str {H : Hp} {m : Addr} {x : Str} {n : Nat} (h : (reprText x).length ≤ n) : Thg n 0 H m (.str x) := ⟨_, .str x, sm_str h⟩
theorem th_tup {n k : Nat} {H : Hp} {m p : Addr} {vs : List V} (hp : p ≠ m) (h : H p = some (.tup vs)) (t : ThL n k H m vs) : Thg (vs.length * (n + 2) + 3) (k + 1) H m (.ref p) := by
  obtain ⟨ds, q1, q2, q3⟩ := t.da
  have z := sm_tup q2
  rw [q3] at z
  exact ⟨_, .tup (by rw [off_ne hp]; exact h) q1, z⟩
theorem th_lst {n k : Nat} {H : Hp} {m p : Addr} {vs : List V} (hp : p ≠ m) (h : H p = some (.lst vs)) (t : ThL n k H m vs) : Thg (vs.length * (n + 2) + 3) (k + 1) H m (.ref p) := by
  obtain ⟨ds, q1, q2, q3⟩ := t.da
  have z := sm_lst q2
  rw [q3] at z
  exact ⟨_, .lst (by rw [off_ne hp]; exact h) q1, z⟩
theorem th_dic {n k : Nat} {H : Hp} {m p : Addr} {kvs : List (Key × V)} (hp : p ≠ m) (h : H p = some (.dK kvs)) (t : ThL n k H m (kvs.map (·.2))) (hk : ∀ p ∈ kvs, Sm n k (keyD p.1)) : Thg (kvs.length * (2 * n + 4) + 2) (k + 1) H m (.ref p) := by
  obtain ⟨ds, q1, q2, q3⟩ := t.da
  have z : SmK n k ((kvs.map fun p => keyD p.1).zip ds) := ⟨fun d hd => by
    obtain ⟨h1, h2⟩ := List.of_mem_zip (a := d.1) (b := d.2) hd
    refine ⟨?_, q2.all _ h2⟩
    obtain ⟨q, hq, e⟩ := List.mem_map.mp h1
    rw [← e]
    exact hk q hq⟩
  have z2 := sm_dic z
  have zl : ((kvs.map fun p => keyD p.1).zip ds).length = kvs.length := by
    rw [List.length_zip, List.length_map, q3, List.length_map]
    exact Nat.min_self _
  rw [zl] at z2
  exact ⟨_, .dic (by rw [off_ne hp]; exact h) q1, z2⟩

structure TxD (K : PySem.W.Frag) (mg : Str → Option Value) (fD : Addr) (fdD : FuncData) : Prop where
  tx : Txt K mg
  draw : At K mg "_law_draw" sDraw ["m", "many"] fD fdD
/-- _law_of(m, some) -/
def spOf : Sp := fun vs H Q _ => ∃ (m c a : Addr) (xs : List V) (n : Nat), vs = [.ref m, .ref a] ∧ MOk H m c n ∧ n ≤ 90000 ∧ a ≠ m ∧ H a = some (.lst xs) ∧ 0 < xs.length ∧ xs.length ≤ 1000 ∧
  ∀ (v : V) (H' : Hp), v ∈ xs → MOk H' m c (n + 1) → Grow m H H' → Q v H'
section
variable {P : Program} {w : World} {K : PySem.W.Frag} {mg : Str → Option Value} {base : Heap} {fD : Addr} {fdD : FuncData}
theorem scOf : FnScope ["m", "some"] ["m", "some"] (defScope sOf) := ⟨rfl, rfl, rfl, by decide +kernel, rfl, by decide +kernel, by decide +kernel⟩
theorem ok_of {f : Addr} {fd : FuncData} (F : Fun K "_law_of" "_law_of" sOf f fd) (T : TxD K mg fD fdD) : FnOk P w K mg base CX0 2 f fd ["m", "some"] spOf := by
  have GD : FnOk P w K mg base CX0 1 fD fdD ["m", "many"] spDraw := ok_draw T.draw.F T.tx
  refine F.ok scOf (fun vs H Q E h => ?_) (fun cdv A outer s H vs Q E hr h => ?_)
  · obtain ⟨m, c, a, xs, n, rfl, _⟩ := h
    rfl
  · obtain ⟨m, c, a, xs, n, rfl, M, hn, ham, ha, h0, h1, k⟩ := h
    refine ⟨_, pss_one (ps_ret (pe_ix ix_list (pv 1) (pe_call GD hr rfl T.draw.g T.draw.F.kp T.draw.b .nil pass0 (pa_cons (pv 0) (pa_cons (pe_callB call_len_seq (by rfl) T.tx.len PySem.boot_len (pa_cons (pv 1) pa_nil)) pa_nil))) (fun _ _ => rfl))), ?_⟩
    have z2 : ((xs.length : Nat) : Int).natAbs < 2 ^ 8000 := Nat.lt_of_le_of_lt (show _ ≤ 1000 by omega) (Nat.lt_of_lt_of_le (show 1000 < 2 ^ 10 by decide) (Nat.pow_le_pow_right (by decide) (by decide)))
    refine ⟨_, rfl, _, rfl, _, rfl, a, _, rfl,   .inl (SqL.of ha), m, c, (xs.length : Nat), n, rfl, M, by omega, by omega, z2, fun r H' r0 r1 M' g => ?_⟩
    obtain ⟨v, hv⟩ : ∃ v, xs[r.toNat]? = some v := ⟨_, List.getElem?_eq_getElem (by omega)⟩
    refine ⟨a, xs, r, v, rfl, rfl, SqL.of (g a _ ham ha), ?_, k v H' (List.mem_of_getElem? hv) M' g⟩
    have e : r = ((r.toNat : Nat) : Int) := by omega
    rw [e]
    exact atI_nat hv
end
end K1
set_option Elab.async false
set_option linter.all false
set_option maxRecDepth 100000
set_option maxHeartbeats 4000000
namespace K1
open PySem L2 Gd PySem.ExG
set_option exponentiation.threshold 10000
theorem MOk.apart {H : Hp} {m c p : Addr} {n : Nat} (M : MOk H m c n) (h : H p = none) : p ≠ m := by
  obtain ⟨l, sd, sp, cs, h1, _⟩ := M.ex
  exact (ne_of_none h1 h).symm
theorem MOk.apartC {H : Hp} {m c p : Addr} {n : Nat} (M : MOk H m c n) (h : H p = none) : p ≠ c := by
  obtain ⟨l, sd, sp, cs, _, h2, _⟩ := M.ex
  exact (ne_of_none h2 h).symm
theorem nat_i {i : Int} (h : i.natAbs < 2 ^ 300) : i.natAbs < 2 ^ 1920 := Nat.lt_trans h (Nat.pow_lt_pow_right (by decide) (by decide))
theorem sm_int3 {i : Int} (h : i.natAbs < 2 ^ 300) : Sm 310 0 (.int i) :=
  have h' := log_lt (by decide) h
  ⟨by show decide (i.natAbs.log2 < 1920) = true; exact decide_eq_true (Nat.lt_trans h' (by decide)), Nat.le_refl _, by
    show (PySem.Str.ofString (toString i)).length ≤ 310
    rw [PySem.ofString_length]
    exact Nat.le_trans (PySem.int_text_length_le (k := 300) (by decide) h') (by decide)⟩
theorem th_int3 {H : Hp} {m : Addr} {i : Int} (h : i.natAbs < 2 ^ 300) : Thg 310 0 H m (.int i) := ⟨_, .int i, sm_int3 h⟩
theorem ti {H : Hp} {m : Addr} (i : Int) (h : i.natAbs < 2 ^ 300 := by decide) : Thg 640 3 H m (.int i) := (th_int3 h).up (by decide) (by decide)
/-- _law_any(m): a thing of any kind -/
def spAny : Sp := fun vs H Q _ => ∃ (m c : Addr) (n : Nat), vs = [.ref m] ∧ MOk H m c n ∧ n ≤ 80000 ∧ ∀ (v : V) (H' : Hp), Thg 640 3 H' m v → MOk H' m c (n + 1) → Grow m H H' → Q v H'
structure TxO (K : PySem.W.Frag) (mg : Str → Option Value) (fD fO : Addr) (fdD fdO : FuncData) : Prop where
  td : TxD K mg fD fdD
  of : At K mg "_law_of" sOf ["m", "some"] fO fdO
section
variable {P : Program} {w : World} {K : PySem.W.Frag} {mg : Str → Option Value} {base : Heap} {fD fO : Addr} {fdD fdO : FuncData}
theorem scAny : FnScope ["m", "some"] ["m"] (defScope sAny) := ⟨rfl, rfl, rfl, by decide +kernel, rfl, by decide +kernel, by decide +kernel⟩
theorem ok_any {f : Addr} {fd : FuncData} (F : Fun K "_law_any" "_law_any" sAny f fd) (T : TxO K mg fD fO fdD fdO) : FnOk P w K mg base CX0 3 f fd ["m"] spAny := by
  have GO : FnOk P w K mg base CX0 2 fO fdO ["m", "some"] spOf := ok_of T.of.F T.td
  refine F.ok scAny (fun vs H Q E h => ?_) (fun cdv A outer s H vs Q E hr h => ?_)
  · obtain ⟨m, c, n, rfl, _⟩ := h
    rfl
  · obtain ⟨m, c, n, rfl, M, hn, k⟩ := h
    have nd := scAny.nd
    refine ⟨_, pss_cons (ps_set (i := 1) nd rfl (Or.inl rfl) (pe_lst (pa_cons pe_non (pa_cons pe_bl (pa_cons pe_bl (pa_cons pe_int (pa_cons (pe_un un_neg pe_int) (pa_cons pe_int (pa_cons pe_int (pa_cons pe_int
        (pa_cons pe_str (pa_cons pe_str (pa_cons (pe_tup pa_nil) (pa_cons (pe_tup (pa_cons pe_int pa_nil)) (pa_cons (pe_lst (pa_cons pe_int pa_nil)) (pa_cons (pe_lst pa_nil) (pa_cons pe_dnewK
        (pa_cons (pe_disp (pps_cons pe_str pe_int pps_nil) (by rfl) (by rfl) (fun z => by cases z) (by decide)) (pa_cons (pe_lst (pa_cons (pe_lst pa_nil) pa_nil)) pa_nil)))))))))))))))))))
      (pss_one (ps_ret (pe_call GO hr rfl T.of.g T.of.F.kp T.of.b .nil pass0 (pa_cons (pv 0) (pa_cons (pe_op op_cat (pv 1)
        (pe_lst (pa_cons (pe_op op_pow pe_int pe_int) (pa_cons (pe_op op_add (pe_op op_pow pe_int pe_int) pe_int) (pa_cons (pe_op op_pow pe_int pe_int) (pa_cons (pe_op op_sub pe_int (pe_op op_pow pe_int pe_int))
          (pa_cons (pe_tup (pa_cons pe_int (pa_cons pe_int pa_nil))) (pa_cons pe_str pa_nil)))))))) pa_nil))))), ?_⟩
    have z0 : ∀ k : Nat, k ≤ 100 → k ≤ sizeLine := fun k h => Nat.le_trans h (by rw [sizeLine_eq]; decide)
    have cp : ∀ j : Int, 0 ≤ j → j ≤ 100 → CPow 10 j := fun j h1 h2 => ⟨h1, by omega, by decide⟩
    refine ⟨_, rfl, z0 0 (by decide), fun p1 h1 => ⟨z0 1 (by decide), fun p2 h2 => ⟨z0 1 (by decide), fun p3 h3 => ⟨z0 0 (by decide), fun p4 h4 p5 h5 p6 h6 => ?_⟩⟩⟩⟩
    refine ⟨upd_same, [((.inr "a" : Key), .int 1)], rfl, by decide, z0 0 (by decide), fun p7 h7 => ⟨z0 1 (by decide), fun p8 h8 => ⟨z0 17 (by decide), fun p9 h9 => ?_⟩⟩⟩
    refine ⟨_, rfl, _, rfl, _, _, rfl, rfl, cp 30 (by decide) (by decide), _, _, rfl, rfl, cp 30 (by decide) (by decide), _, _, rfl, rfl, _, _, rfl, rfl, cp 60 (by decide) (by decide), _, _, rfl, rfl, cp 30 (by decide) (by decide), _, _, rfl, rfl,
      z0 2 (by decide), fun p10 h10 => ⟨z0 6 (by decide), fun p11 h11 => ?_⟩⟩
    refine ⟨p9, p11, _, _, rfl, rfl, Same.new h11 _ _ (Same.new h10 _ _ upd_same), upd_same, z0 23 (by decide), fun p12 h12 => ?_⟩
    -- what stands
    have M1 := M.new (o := .tup []) h1
    have M2 := M1.new (o := .tup [.int 2]) h2
    have M3 := M2.new (o := .lst [.int 2]) h3
    have M4 := M3.new (o := .lst []) h4
    have M5 := M4.new (o := .dK []) h5
    have dbl : ∀ (G : Hp) (A B : HO), G p6 = none → Grow m G (upd (upd G p6 A) p6 B) := fun G A B h => by
      rw [upd_upd]
      exact Grow.new h
    have dblM : ∀ (G : Hp) (A B : HO), G p6 = none → MOk G m c n → MOk (upd (upd G p6 A) p6 B) m c n := fun G A B h M => by
      rw [upd_upd]
      exact M.new h
    have M6 := dblM _ (.dK []) (.dK (mergeK [] [((.inr "a" : Key), .int 1)])) h6 M5
    have M7 := M6.new (o := .lst []) h7
    have M8 := M7.new (o := .lst [.ref p7]) h8
    have M9 := M8.new h9 (o := (HO.lst [V.non, V.bl true, V.bl false, V.int 0, (fun i => V.int (-i)) 1, V.int 1, V.int 3, V.int 4, V.str (Str.ofString "2"), V.str (Str.ofString ""), V.ref p1, V.ref p2, V.ref p3, V.ref p4, V.ref p5, V.ref p6, V.ref p8]))
    have M10 := M9.new (o := .tup [.int 1, .int 2]) h10
    have M11 := fun o => M10.new (o := o) h11
    -- how the heap grew
    have c12 := fun o => Grow.new (m := m) (o := o) h12
    have c11 := fun o => (Grow.new (m := m) h11).trans (c12 o)
    have c10 := fun o => (Grow.new (m := m) h10).trans (c11 o)
    have c9 := fun o => (Grow.new (m := m) h9).trans (c10 o)
    have c8 := fun o => (Grow.new (m := m) h8).trans (c9 o)
    have c7 := fun o => (Grow.new (m := m) h7).trans (c8 o)
    have c6 := fun o => (dbl _ _ _ h6).trans (c7 o)
    have c5 := fun o => (Grow.new (m := m) h5).trans (c6 o)
    have c4 := fun o => (Grow.new (m := m) h4).trans (c5 o)
    have c3 := fun o => (Grow.new (m := m) h3).trans (c4 o)
    have c2 := fun o => (Grow.new (m := m) h2).trans (c3 o)
    have c1 := fun o => (Grow.new (m := m) h1).trans (c2 o)
    -- the things
    have t1 : Thg 640 3 (upd H p1 (.tup [])) m (.ref p1) := (th_tup (M.apart h1) upd_same (ThL.nil (n := 0) (k := 0))).up (by decide) (by decide)
    have one : ∀ (G : Hp) (i : Int), i.natAbs < 2 ^ 300 → ThL 310 0 G m [.int i] := fun G i h => ThL.cons (th_int3 h) ThL.nil
    have t2 := fun G h => (th_tup (n := 310) (k := 0) (H := G) (M1.apart h2) h (one G 2 (by decide))).up (n' := 640) (k' := 3) (by decide) (by decide)
    have t3 := fun G h => (th_lst (n := 310) (k := 0) (H := G) (M2.apart h3) h (one G 2 (by decide))).up (n' := 640) (k' := 3) (by decide) (by decide)
    have t4 := fun G h => (th_lst (n := 0) (k := 0) (H := G) (M3.apart h4) h ThL.nil).up (n' := 640) (k' := 3) (by decide) (by decide)
    have t5 := fun G h => (th_dic (n := 0) (k := 0) (H := G) (kvs := []) (M4.apart h5) h ThL.nil (fun p hp => by cases hp)).up (n' := 640) (k' := 3) (by decide) (by decide)
    have t6 := fun G h => (th_dic (n := 310) (k := 0) (H := G) (kvs := [((.inr "a" : Key), .int 1)]) (M5.apart h6) h (one G 1 (by decide)) (fun p hp => by
      simp only [List.mem_cons, List.not_mem_nil, or_false] at hp
      subst hp
      exact (sm_str (n := 3) (by decide +kernel)).up (by decide) (by decide))).up (n' := 640) (k' := 3) (by decide) (by decide)
    have t7 := fun G h => (th_lst (n := 0) (k := 0) (H := G) (M6.apart h7) h ThL.nil)
    have t8 := fun G h h' => (th_lst (n := 3) (k := 1) (H := G) (M7.apart h8) h' (ThL.cons (t7 G h) ThL.nil)).up (n' := 640) (k' := 3) (by simp) (by decide)
    have t10 := fun G h => (th_tup (n := 310) (k := 0) (H := G) (M9.apart h10) h (ThL.cons (th_int3 (i := 1) (by decide)) (one G 2 (by decide)))).up (n' := 640) (k' := 3) (by decide) (by decide)
    refine ⟨m, c, p12, _, n, rfl, (M11 _).new h12, by omega, (M11 _).apart h12, upd_same, (by simp), (by simp), fun v H' hv M' g => k v H' ((ThL.all ?_ v hv).grow g) M' ((c1 _).trans g)⟩
    have sn : ∀ {G : Hp} (x : Str), (reprText x).length ≤ 100 → Thg 640 3 G m (.str x) := fun x h => (th_str h).up (by decide) (by decide)
    refine ThL.append ?_ ?_
    · exact ThL.cons (th_none.up (by decide) (by decide)) (ThL.cons ((th_bool true).up (by decide) (by decide)) (ThL.cons ((th_bool false).up (by decide) (by decide))
        (ThL.cons (ti 0) (ThL.cons (ti (-1)) (ThL.cons (ti 1) (ThL.cons (ti 3) (ThL.cons (ti 4) (ThL.cons (sn _ (by decide +kernel)) (ThL.cons (sn _ (by decide +kernel))
        (ThL.cons (t1.grow (c2 _)) (ThL.cons ((t2 _ upd_same).grow (c3 _)) (ThL.cons ((t3 _ upd_same).grow (c4 _)) (ThL.cons ((t4 _ upd_same).grow (c5 _)) (ThL.cons ((t5 _ upd_same).grow (c6 _))
        (ThL.cons ((t6 _ upd_same).grow (c7 _)) (ThL.cons ((t8 _ (Same.new h8 _ _ upd_same) upd_same).grow (c9 _)) ThL.nil))))))))))))))))
    · exact ThL.cons (ti _ (by decide +kernel)) (ThL.cons (ti _ (by decide +kernel)) (ThL.cons (ti _ (by decide +kernel)) (ThL.cons (ti _ (by decide +kernel)) (ThL.cons ((t10 _ upd_same).grow (c11 _)) (ThL.cons (sn _ (by decide +kernel)) ThL.nil)))))
end
end K1
set_option Elab.async false
set_option linter.all false
set_option maxRecDepth 100000
set_option maxHeartbeats 4000000
namespace K1
open PySem L2 Gd PySem.ExG
set_option exponentiation.threshold 10000
/-- a drawn plan at v -/
structure Frm (H : Hp) (m : Addr) (v : V) : Prop where
  ex : ∃ (p q : Addr) (hands : Int) (gs : List Int), v = .ref p ∧ p ≠ m ∧ q ≠ m ∧ H p = some (.tup [.int hands, .ref q]) ∧ H q = some (.tup (gs.map V.int)) ∧
    1 ≤ gs.length ∧ gs.length ≤ 8 ∧ hands.natAbs < 2 ^ 300 ∧ ∀ g ∈ gs, g.natAbs < 2 ^ 300
/-- _law_drawn(m) -/
def spDrawn : Sp := fun vs H Q _ => ∃ (m c : Addr) (n : Nat), vs = [.ref m] ∧ MOk H m c n ∧ n ≤ 80000 ∧ ∀ (v : V) (H' : Hp), Frm H' m v → MOk H' m c (n + 11) → Grow m H H' → Q v H'
structure TxDr (K : PySem.W.Frag) (mg : Str → Option Value) (fD fO : Addr) (fdD fdO : FuncData) : Prop where
  to : TxO K mg fD fO fdD fdO
  tuple : mg "tuple" = none
  range : mg "range" = none
theorem big8 {i : Int} (h : i.natAbs < 2 ^ 300) : i.natAbs < 2 ^ 8000 := Nat.lt_trans h (Nat.pow_lt_pow_right (by decide) (by decide))
section
variable {P : Program} {w : World} {K : PySem.W.Frag} {mg : Str → Option Value} {base : Heap} {fD fO : Addr} {fdD fdO : FuncData}
theorem scDrawn : FnScope ["m", "most", "lot", "spot"] ["m"] (defScope sDrawn) := ⟨rfl, rfl, rfl, by decide +kernel, rfl, by decide +kernel, by decide +kernel⟩
theorem ok_drawn {f : Addr} {fd : FuncData} (F : Fun K "_law_drawn" "_law_drawn" sDrawn f fd) (T : TxDr K mg fD fO fdD fdO) : FnOk P w K mg base CX0 3 f fd ["m"] spDrawn := by
  have GO : FnOk P w K mg base CX0 2 fO fdO ["m", "some"] spOf := ok_of T.to.of.F T.to.td
  have GD : FnOk P w K mg base CX0 1 fD fdD ["m", "many"] spDraw := ok_draw T.to.td.draw.F T.to.td.tx
  refine F.ok scDrawn (fun vs H Q E h => ?_) (fun cdv A outer s H vs Q E hr h => ?_)
  · obtain ⟨m, c, n, rfl, _⟩ := h
    rfl
  · obtain ⟨m, c, n, rfl, M, hn, k⟩ := h
    have nd := scDrawn.nd
    have hr1 : Room 1 _ := hr.mono (by decide)
    refine ⟨_, pss_cons (ps_set (i := 1) nd rfl (Or.inr rfl) (pe_call GO hr rfl T.to.of.g T.to.of.F.kp T.to.of.b .nil pass0 (pa_cons (pv 0) (pa_cons
        (pe_lst (pa_cons pe_int (pa_cons pe_int (pa_cons (pe_op op_pow pe_int pe_int) (pa_cons (pe_op op_pow pe_int pe_int) pa_nil))))) pa_nil))))
      (pss_cons (ps_set (i := 2) nd rfl (Or.inl rfl) (pe_callTy call_tuple_of (by rfl) T.tuple (by decide +kernel) (pa_cons (pe_lc (own := [("spot", 3)]) (g := gName 3) (tt := tYes) (by rfl) nd
          (pi_range1 rfl T.range (pa_cons (pe_op op_add pe_int (pe_call GD hr1 rfl T.to.td.draw.g T.to.td.draw.F.kp T.to.td.draw.b .nil pass0 (pa_cons (pv 0) (pa_cons pe_int pa_nil)))) pa_nil))
          (blkOk_by (N := ["m", "most", "lot", "spot"]) (sc := defScope sDrawn) (by decide +kernel))
          (fun _ _ _ _ _ => by exact (pg_name (i := 3) nd rfl (Or.inl rfl)))
          (fun _ _ _ _ _ => pts_nil)
          (fun _ _ _ _ _ => by exact (pe_op op_add pe_int (pe_call GD hr1 rfl T.to.td.draw.g T.to.td.draw.F.kp T.to.td.draw.b .nil pass0 (pa_cons (pv 0) (pa_cons (pv 1) pa_nil)))))) pa_nil)))
      (pss_one (ps_ret (pe_tup (pa_cons (pe_op op_add pe_int (pe_call GD hr1 rfl T.to.td.draw.g T.to.td.draw.F.kp T.to.td.draw.b .nil pass0 (pa_cons (pv 0) (pa_cons pe_int pa_nil)))) (pa_cons (pv 2) pa_nil)))))), ?_⟩
    have z0 : ∀ k : Nat, k ≤ 100 → k ≤ sizeLine := fun k h => Nat.le_trans h (by rw [sizeLine_eq]; decide)
    refine ⟨_, rfl, _, _, rfl, rfl, ⟨by decide, by decide, by decide⟩, _, _, rfl, rfl, ⟨by decide, by decide, by decide⟩, z0 4 (by decide), fun p1 h1 => ?_⟩
    refine ⟨m, c, p1, _, n, rfl, M.new h1, by omega, M.apart h1, upd_same, (by simp), (by simp), fun v1 H1 hv1 M1 g1 => ?_⟩
    obtain ⟨most, rfl, hm0, hm1⟩ : ∃ most : Int, v1 = .int most ∧ 0 < most ∧ most.natAbs < 2 ^ 290 := by
      simp only [List.mem_cons, List.not_mem_nil, or_false] at hv1
      rcases hv1 with rfl | rfl | rfl | rfl
      · exact ⟨_, rfl, by decide, by decide +kernel⟩
      · exact ⟨_, rfl, by decide, by decide +kernel⟩
      · exact ⟨_, rfl, by decide +kernel, by decide +kernel⟩
      · exact ⟨_, rfl, by decide +kernel, by decide +kernel⟩
    have big : ∀ j : Int, 0 ≤ j → j < 100 → j.natAbs < 2 ^ 8000 := fun j a b => Nat.lt_trans (show j.natAbs < 2 ^ 10 by omega) (Nat.pow_lt_pow_right (by decide) (by decide))
    have hmb : most.natAbs < 2 ^ 8000 := Nat.lt_trans hm1 (Nat.pow_lt_pow_right (by decide) (by decide))
    -- lot
    refine ⟨_, rfl, m, c, 8, n + 1, rfl, M1, by omega, by decide, big 8 (by decide) (by decide), fun r H2 r0 r1 M2 g2 => ?_⟩
    refine ⟨_, _, rfl, rfl, 1 + r, rfl, by omega, by omega, fun D hD => ?_⟩
    have Dm := M2.apart hD
    have Dc := M2.apartC hD
    refine lc_range (lo := 0) (n := (1 + r).toNat) (fun i H' => ∃ acc : List Int, H' D = some (.lst (acc.map V.int)) ∧ acc.length = i ∧ (∀ x ∈ acc, x.natAbs < 2 ^ 300) ∧ Grow m H2 H' ∧ MOk H' m c (n + 2 + i))
      ⟨[], upd_same, rfl, (fun x hx => by cases hx), Grow.new hD, M2.new hD⟩ ?_ ?_
    · rintro i H3 hi ⟨acc, e1, e2, e3, g3, M3⟩
      refine ⟨rfl, ?_⟩
      dsimp only [tYes]
      refine iteT ?_
      refine ⟨_, rfl, _, rfl, m, c, most, n + 2 + i, rfl, M3, by omega, hm0, hmb, fun r' H4 q0 q1 M4 g4 => ?_⟩
      refine ⟨_, _, rfl, rfl, _, g4 D _ Dm e1, ?_, ?_⟩
      · rw [List.length_map, sizeLine_eq]
        omega
      · refine ⟨acc ++ [1 + r'], ?_, ?_, ?_, ?_, ?_⟩
        · rw [upd_same, List.map_append]
          rfl
        · rw [List.length_append, e2]
          rfl
        · intro x hx
          rcases List.mem_append.mp hx with hx | hx
          · exact e3 x hx
          · rw [List.mem_singleton.mp hx]
            have : (2 : Nat) ^ 290 + 1 < 2 ^ 300 := by decide +kernel
            omega
        · intro b o hb q
          rw [upd_ne (ne_of_none q hD)]
          exact g4 b o hb (g3 b o hb q)
        · exact (M4.set Dm Dc).up (by omega)
    · rintro H3 ⟨acc, e1, e2, e3, g3, M3⟩
      refine ⟨D, _, rfl, .inl ⟨SqL.of e1, fun q hq => ?_⟩⟩
      have M4 := M3.new (o := .tup (acc.map V.int)) hq
      have qm := M3.apart hq
      -- the plan
      refine ⟨_, rfl, m, c, 3, n + 2 + (1 + r).toNat, rfl, M4, by omega, by decide, big 3 (by decide) (by decide), fun r' H5 q0 q1 M5 g5 => ?_⟩
      refine ⟨_, _, rfl, rfl, _, rfl, z0 2 (by decide), fun p hp => ?_⟩
      have M6 := M5.new (o := .tup [.int (1 + r'), .ref q]) hp
      refine k _ _ ⟨⟨p, q, 1 + r', acc, rfl, M5.apart hp, qm, upd_same, ?_, by omega, by omega, ?_, e3⟩⟩ (M6.up (by omega)) ?_
      · have z := g5 q _ qm upd_same
        rw [upd_ne (ne_of_none z hp)]
        exact z
      · exact Nat.lt_trans (show (1 + r').natAbs < 2 ^ 10 by omega) (Nat.pow_lt_pow_right (by decide) (by decide))
      · exact (Grow.new h1).trans (g1.trans (g2.trans (g3.trans ((Grow.new hq).trans (g5.trans (Grow.new hp))))))
end
end K1
set_option Elab.async false
set_option linter.all false
set_option maxRecDepth 100000
set_option maxHeartbeats 4000000
namespace Gd
open PySem L2
/-- the same, or one new object more -/
def Ext (H H' : Hp) : Prop := H' = H ∨ ∃ p o, H p = none ∧ H' = upd H p o
/-- t + u, wherever the sum stands -/
def rCatM : R2 := fun x y H Q => ∃ a b xs ys, x = .ref a ∧ y = .ref b ∧ H a = some (.tup xs) ∧ H b = some (.tup ys) ∧ xs.length + ys.length ≤ sizeLine ∧
  ∀ p H', Ext H H' → H' p = some (.tup (xs ++ ys)) → Q (.ref p) H'
def rSlM : V → Option Int → Option Int → Hp → VK → Prop := fun x lo hi H Q => ∃ a xs, x = .ref a ∧ H a = some (.tup xs) ∧
  ∀ p H', Ext H H' → H' p = some (.tup (cutV xs lo hi)) → Q (.ref p) H'
theorem cut_whole {xs : List V} {lo hi : Option Int} (h1 : HT.sIx xs.length 0 lo = 0) (h2 : HT.sIx xs.length xs.length hi = xs.length) : cutV xs lo hi = xs := by
  unfold cutV
  rw [h1, h2]
  simp
theorem cut_mem {xs : List V} {lo hi : Option Int} {v : V} (h : v ∈ cutV xs lo hi) : v ∈ xs := List.mem_of_mem_drop (List.mem_of_mem_take h)
section
variable {X : Cx}
theorem op_catM : OpR X (binaryOp .Add) rCatM := by
  intro pins s σ H x y v u Q I rx ry h
  obtain ⟨a, b, xs, ys, ex, ey, ha, hb, hz, k⟩ := h
  refine op_catA pins s σ H x y v u Q I rx ry ⟨a, b, xs, ys, ex, ey, SqT.of ha, SqT.of hb, hz, fun e => ?_, fun _ e => ?_, fun _ _ p hp => ?_⟩
  · subst e
    exact k b H (.inl rfl) hb
  · subst e
    refine k a H (.inl rfl) ?_
    rw [List.append_nil]
    exact ha
  · exact k p _ (.inr ⟨p, _, hp, rfl⟩) upd_same
theorem sl_tupM : SlR X rSlM := by
  intro pins s σ H x v vl vu lo hi sl Q I rx hs pl pu h
  obtain ⟨a, xs, ex, ha, k⟩ := h
  refine sl_tupA pins s σ H x v vl vu lo hi sl Q I rx hs pl pu ⟨a, xs, ex, SqT.of ha, fun hw => ?_, fun _ p hp => ?_⟩
  · refine k a H (.inl rfl) ?_
    rw [cut_whole hw.1 hw.2]
    exact ha
  · exact k p _ (.inr ⟨p, _, hp, rfl⟩) upd_same
/-- t != () -/
def rNe0 : R2 := fun x y H Q => ∃ a b xs, x = .ref a ∧ y = .ref b ∧ H a = some (.tup xs) ∧ H b = some (.tup []) ∧ Q (.bl (!xs.isEmpty)) H
theorem op_ne0 (hu : X.A.units < cLine) : OpR X (compareOp .NotEq) rNe0 := by
  intro pins s σ H x y v u Q I rx ry h
  obtain ⟨a, b, xs, rfl, rfl, ha, hb, q⟩ := h
  cases rx
  cases ry
  obtain ⟨its, r1, ⟨o1, h1, c1, n1, d1⟩, _⟩ := I.tuple (SqT.of ha)
  obtain ⟨its2, r2, ⟨o2, h2, c2, n2, d2⟩, _⟩ := I.tuple (SqT.of hb)
  cases r2
  have z := SeqAt.RcNeAt.tuples (A := X.A) (s := s) (e := fun _ => true) ⟨o1, h1, c1, n1, d1⟩ ⟨o2, h2, c2, n2, d2⟩ hu (fun j _ hj => by simp at hj)
  refine z X.prog X.w X.xe _ ?_
  have e : (!((List.range (min its.toArray.size ([] : List Value).toArray.size)).all (fun _ => true) && its.toArray.size == ([] : List Value).toArray.size)) = !xs.isEmpty := by
    cases r1 with
    | nil => rfl
    | cons _ _ => simp
  rw [e]
  exact ⟨.bl _, H, I, rfl, q⟩
end
end Gd
namespace K1
open PySem L2 Gd PySem.ExG
set_option exponentiation.threshold 10000
theorem _root_.Gd.Ext.grow {H H' : Hp} (e : Ext H H') (m : Addr) : Grow m H H' := by
  rcases e with rfl | ⟨p, o, h, rfl⟩
  · exact Grow.refl _ _
  · exact Grow.new h
theorem _root_.Gd.Ext.mok {H H' : Hp} (e : Ext H H') {m c : Addr} {n : Nat} (M : MOk H m c n) : MOk H' m c n := by
  rcases e with rfl | ⟨p, o, h, rfl⟩
  · exact M
  · exact M.new h
theorem MOk.neT {H : Hp} {m c p : Addr} {n : Nat} {xs : List V} (M : MOk H m c n) (h : H p = some (.tup xs)) : p ≠ m := by
  obtain ⟨l, sd, sp, cs, h1, _⟩ := M.ex
  exact ne_of h h1 (by intro z; cases z)
theorem MOk.neL {H : Hp} {m c p : Addr} {n : Nat} {xs : List V} (M : MOk H m c n) (h : H p = some (.lst xs)) : p ≠ m := by
  obtain ⟨l, sd, sp, cs, h1, _⟩ := M.ex
  exact ne_of h h1 (by intro z; cases z)
/-- what _law_bent tells -/
inductive Bnt (L : Nat) (H : Hp) (m : Addr) (v : V) : Prop
  | any (h : Thg 640 3 H m v)
  | tup (p : Addr) (ys : List V) (e : v = .ref p) (n : p ≠ m) (h : H p = some (.tup ys)) (t : ThL 640 3 H m ys) (l : ys.length ≤ L)
  | lst (p : Addr) (ys : List V) (e : v = .ref p) (n : p ≠ m) (h : H p = some (.lst ys)) (t : ThL 640 3 H m ys) (l : ys.length ≤ L)
theorem Bnt.grow {L : Nat} {H H' : Hp} {m : Addr} {v : V} (b : Bnt L H m v) (g : Grow m H H') : Bnt L H' m v := by
  cases b with
  | any h => exact .any (h.grow g)
  | tup p ys e n h t l => exact .tup p ys e n (g _ _ n h) (t.grow g) l
  | lst p ys e n h t l => exact .lst p ys e n (g _ _ n h) (t.grow g) l
theorem Bnt.thg {L : Nat} {H : Hp} {m : Addr} {v : V} (b : Bnt L H m v) (hL : L ≤ 2000) : Thg 1300000 4 H m v := by
  cases b with
  | any h => exact h.up (by decide) (by decide)
  | tup p ys e n h t l =>
    subst e
    exact (th_tup n h t).up (by omega) (by decide)
  | lst p ys e n h t l =>
    subst e
    exact (th_lst n h t).up (by omega) (by decide)
/-- _law_bent(m, sheet) -/
def spBent : Sp := fun vs H Q _ => ∃ (m c a : Addr) (xs : List V) (n : Nat), vs = [.ref m, .ref a] ∧ MOk H m c n ∧ n ≤ 70000 ∧ H a = some (.tup xs) ∧ 0 < xs.length ∧ xs.length ≤ 900 ∧ ThL 640 3 H m xs ∧
  ∀ (v : V) (H' : Hp), Bnt (2 * xs.length + 1) H' m v → MOk H' m c (n + 4) → Grow m H H' → Q v H'
structure TxB (K : PySem.W.Frag) (mg : Str → Option Value) (fD fO fA : Addr) (fdD fdO fdA : FuncData) : Prop where
  to : TxO K mg fD fO fdD fdO
  any : At K mg "_law_any" sAny ["m"] fA fdA
  list : mg "list" = none
section
variable {P : Program} {w : World} {K : PySem.W.Frag} {mg : Str → Option Value} {base : Heap} {fD fO fA : Addr} {fdD fdO fdA : FuncData}
theorem scBent : FnScope ["m", "sheet", "spot", "how"] ["m", "sheet"] (defScope sBent) := ⟨rfl, rfl, rfl, by decide +kernel, rfl, by decide +kernel, by decide +kernel⟩
theorem ok_bent {f : Addr} {fd : FuncData} (F : Fun K "_law_bent" "_law_bent" sBent f fd) (T : TxB K mg fD fO fA fdD fdO fdA) : FnOk P w K mg base CX0 4 f fd ["m", "sheet"] spBent := by
  have GO : FnOk P w K mg base CX0 2 fO fdO ["m", "some"] spOf := ok_of T.to.of.F T.to.td
  have GD : FnOk P w K mg base CX0 1 fD fdD ["m", "many"] spDraw := ok_draw T.to.td.draw.F T.to.td.tx
  have GA : FnOk P w K mg base CX0 3 fA fdA ["m"] spAny := ok_any T.any.F T.to
  refine F.ok scBent (fun vs H Q E h => ?_) (fun cdv A outer s H vs Q E hr h => ?_)
  · obtain ⟨m, c, a, xs, n, rfl, _⟩ := h
    rfl
  · obtain ⟨m, c, a, xs, n, rfl, M, hn, ha, h0, h1, tx, k⟩ := h
    have nd := scBent.nd
    have hr1 : Room 1 _ := hr.mono (by decide)
    have hr2 : Room 2 _ := hr.mono (by decide)
    refine ⟨_, pss_cons (ps_par (i := 2) (j := 3) (by rfl) nd rfl rfl (by decide) rfl rfl
        (pa_cons (pe_call GD hr1 rfl T.to.td.draw.g T.to.td.draw.F.kp T.to.td.draw.b .nil pass0 (pa_cons (pv 0) (pa_cons (pe_callB call_len_seq (by rfl) T.to.td.tx.len PySem.boot_len (pa_cons (pv 1) pa_nil)) pa_nil)))
          (pa_cons (pe_call GD hr1 rfl T.to.td.draw.g T.to.td.draw.F.kp T.to.td.draw.b .nil pass0 (pa_cons (pv 0) (pa_cons pe_int pa_nil))) pa_nil)) (by rfl))
      (pss_cons (ps_if (pt_cmpR op_lt (pv 3) pe_int (nomark _))
        (pss_one (ps_ret (pe_op op_catM (pe_op op_catM (pe_slice sl_tupM (pv 1) po_none (po_some (pv 2))) (pe_tup (pa_cons (pe_call GA hr rfl T.any.g T.any.F.kp T.any.b .nil pass0 (pa_cons (pv 0) pa_nil)) pa_nil)))
          (pe_slice sl_tupM (pv 1) (po_some (pe_op op_add (pv 2) pe_int)) po_none)))) pss_nil)
      (pss_cons (ps_if (pt_cmpR op_eq (pv 3) pe_int (nomark _))
        (pss_one (ps_ret (pe_call GO hr2 rfl T.to.of.g T.to.of.F.kp T.to.of.b .nil pass0 (pa_cons (pv 0) (pa_cons (pe_lst (pa_cons (pe_callTy call_list_of (by rfl) T.list (by decide +kernel) (pa_cons (pv 1) pa_nil))
          (pa_cons (pe_tup pa_nil) (pa_cons (pe_op op_catM (pv 1) (pv 1)) (pa_cons (pe_call GA hr rfl T.any.g T.any.F.kp T.any.b .nil pass0 (pa_cons (pv 0) pa_nil)) pa_nil))))) pa_nil))))) pss_nil)
      (pss_one (ps_ret (pe_ifExp (pt_cmpR op_eq (pv 3) pe_int (nomark _)) (pe_slice sl_tupM (pv 1) po_none (po_some (pv 2)))
        (pe_op op_catM (pv 1) (pe_tup (pa_cons (pe_call GA hr rfl T.any.g T.any.F.kp T.any.b .nil pass0 (pa_cons (pv 0) pa_nil)) pa_nil)))))))), ?_⟩
    have am := M.neT ha
    have sz : ∀ k : Nat, k ≤ 5000 → k ≤ sizeLine := fun k h => Nat.le_trans h (by rw [sizeLine_eq]; decide)
    have big : ∀ j : Int, 0 ≤ j → j < 1000 → j.natAbs < 2 ^ 8000 := fun j a b => Nat.lt_trans (show j.natAbs < 2 ^ 10 by omega) (Nat.pow_lt_pow_right (by decide) (by decide))
    refine ⟨_, rfl, _, rfl, a, _, rfl, .inr (SqT.of ha), m, c, (xs.length : Nat), n, rfl, M, by omega, by omega, big _ (by omega) (by omega), fun s1 H1 q0 q1 M1 g1 => ?_⟩
    refine ⟨_, rfl, m, c, 6, n + 1, rfl, M1, by omega, by decide, big 6 (by decide) (by decide), fun s2 H2 q2 q3 M2 g2 => ?_⟩
    refine ⟨_, _, rfl, ?_⟩
    have ha2 : H2 a = some (.tup xs) := g2 _ _ am (g1 _ _ am ha)
    have tx2 : ThL 640 3 H2 m xs := (tx.grow g1).grow g2
    have g12 := g1.trans g2
    have cl : ∀ lo hi, (cutV xs lo hi).length ≤ xs.length := fun lo hi => cutV_length xs lo hi
    -- if how < 3
    refine ⟨_, rfl, _, _, rfl, rfl, _, rfl, ?_⟩
    refine ite2 (fun _ => ?_) (fun _ => ?_)
    · refine ⟨_, rfl, _, rfl, _, rfl, a, xs, rfl, ha2, fun p1 H3 e1 hp1 => ?_⟩
      have M3 := e1.mok M2
      refine ⟨_, rfl, m, c, n + 2, rfl, M3, by omega, fun v H4 tv M4 g4 => ?_⟩
      refine ⟨sz 1 (by decide), fun p2 hp2 => ?_⟩
      have hp1' := Same.new (o := .tup [v]) hp2 _ _ (g4 _ _ (M3.neT hp1) hp1)
      have M5 := M4.new (o := .tup [v]) hp2
      have c1 := cl none (some s1)
      refine ⟨p1, p2, _, _, rfl, rfl, hp1', upd_same, sz _ (by simp only [List.length_cons, List.length_nil]; omega), fun p3 H5 e3 hp3 => ?_⟩
      have M6 := e3.mok M5
      have g5 : Grow m H2 H5 := (e1.grow m).trans (g4.trans ((Grow.new hp2).trans (e3.grow m)))
      refine ⟨_, rfl, _, rfl, _, _, rfl, rfl, _, rfl, a, xs, rfl, g5 _ _ am ha2, fun p4 H6 e4 hp4 => ?_⟩
      have M7 := e4.mok M6
      have c2 := cl (some (s1 + 1)) none
      refine ⟨p3, p4, _, _, rfl, rfl, e4.grow m _ _ (M6.neT hp3) hp3, hp4, sz _ (by simp only [List.length_append, List.length_cons, List.length_nil]; omega), fun p5 H7 e5 hp5 => ?_⟩
      have M8 := e5.mok M7
      have g7 : Grow m H5 H7 := (e4.grow m).trans (e5.grow m)
      have g47 : Grow m H4 H7 := (Grow.new hp2).trans ((e3.grow m).trans g7)
      refine k _ _ (.tup p5 _ rfl (M8.neT hp5) hp5 (ThL.append (ThL.append ?_ ?_) ?_) ?_) (M8.up (by omega)) (g12.trans (g5.trans g7))
      · exact ((tx2.grow g5).grow g7).sub fun v hv => cut_mem hv
      · exact ThL.cons (tv.grow g47) ThL.nil
      · exact ((tx2.grow g5).grow g7).sub fun v hv => cut_mem hv
      · simp only [List.length_append, List.length_cons, List.length_nil]
        omega
    -- if how == 3
    refine ⟨_, rfl, rfl, _, rfl, ?_⟩
    refine ite2 (fun _ => ?_) (fun _ => ?_)
    · refine ⟨_, rfl, _, rfl, a, xs, rfl, .inr (SqT.of ha2), fun p1 hp1 => ?_⟩
      refine ⟨sz 0 (by decide), fun p2 hp2 => ?_⟩
      have M3 := (M2.new (o := .lst xs) hp1).new (o := .tup []) hp2
      have ha4 := Same.new (o := .tup []) hp2 _ _ (Same.new (o := .lst xs) hp1 _ _ ha2)
      refine ⟨_, rfl, _, rfl, a, a, xs, xs, rfl, rfl, ha4, ha4, sz _ (by omega), fun p3 H5 e3 hp3 => ?_⟩
      have M5 := e3.mok M3
      refine ⟨_, rfl, m, c, n + 2, rfl, M5, by omega, fun v H6 tv M6 g6 => ?_⟩
      refine ⟨sz 4 (by decide), fun p4 hp4 => ?_⟩
      have M7 := M6.new (o := .lst [.ref p1, .ref p2, .ref p3, v]) hp4
      have gb : Grow m H2 H5 := (Grow.new hp1).trans ((Grow.new hp2).trans (e3.grow m))
      have ga := gb.trans (g6.trans (Grow.new (o := .lst [.ref p1, .ref p2, .ref p3, v]) hp4))
      refine ⟨m, c, p4, _, n + 3, rfl, M7, by omega, M6.apart hp4, upd_same, (by simp), (by simp), fun z H8 hz M8 g8 => ?_⟩
      refine k _ _ (Bnt.grow (H := upd H6 p4 (.lst [.ref p1, .ref p2, .ref p3, v])) ?_ g8) M8 (g12.trans (ga.trans g8))
      have gt : Grow m (upd H2 p1 (.lst xs)) (upd H6 p4 (.lst [.ref p1, .ref p2, .ref p3, v])) := (Grow.new hp2).trans ((e3.grow m).trans (g6.trans (Grow.new hp4)))
      have gu : Grow m (upd (upd H2 p1 (.lst xs)) p2 (.tup [])) (upd H6 p4 (.lst [.ref p1, .ref p2, .ref p3, v])) := (e3.grow m).trans (g6.trans (Grow.new hp4))
      have gv : Grow m H5 (upd H6 p4 (.lst [.ref p1, .ref p2, .ref p3, v])) := g6.trans (Grow.new hp4)
      simp only [List.mem_cons, List.not_mem_nil, or_false] at hz
      rcases hz with rfl | rfl | rfl | rfl
      · exact .lst p1 xs rfl (M2.apart hp1) (gt _ _ (M2.apart hp1) upd_same) (tx2.grow ga) (by omega)
      · have n2 := (M2.new (o := .lst xs) hp1).apart hp2
        exact .tup p2 [] rfl n2 (gu _ _ n2 upd_same) ThL.nil (by simp)
      · exact .tup p3 _ rfl (M5.neT hp3) (gv _ _ (M5.neT hp3) hp3) ((tx2.grow ga).append (tx2.grow ga)) (by rw [List.length_append]; omega)
      · exact .any (tv.grow (Grow.new hp4))
    -- the rest
    refine ⟨_, rfl, rfl, _, rfl, ?_⟩
    refine ite2 (fun _ => ?_) (fun _ => ?_)
    · refine ⟨_, rfl, _, rfl, _, rfl, a, xs, rfl, ha2, fun p1 H3 e1 hp1 => ?_⟩
      have M3 := e1.mok M2
      have c1 := cl none (some s1)
      exact k _ _ (.tup p1 _ rfl (M3.neT hp1) hp1 ((tx2.grow (e1.grow m)).sub fun v hv => cut_mem hv) (by omega)) (M3.up (by omega)) (g12.trans (e1.grow m))
    · refine ⟨_, rfl, _, rfl, m, c, n + 2, rfl, M2, by omega, fun v H3 tv M3 g3 => ?_⟩
      refine ⟨sz 1 (by decide), fun p1 hp1 => ?_⟩
      have M4 := M3.new (o := .tup [v]) hp1
      have g4 : Grow m H2 (upd H3 p1 (.tup [v])) := g3.trans (Grow.new hp1)
      refine ⟨a, p1, _, _, rfl, rfl, g4 _ _ am ha2, upd_same, sz _ (by simp only [List.length_cons, List.length_nil]; omega), fun p2 H5 e2 hp2 => ?_⟩
      have M5 := e2.mok M4
      refine k _ _ (.tup p2 _ rfl (M5.neT hp2) hp2 (ThL.append ((tx2.grow g4).grow (e2.grow m)) (ThL.cons (tv.grow ((Grow.new hp1).trans (e2.grow m))) ThL.nil)) ?_) (M5.up (by omega)) (g12.trans (g4.trans (e2.grow m)))
      simp only [List.length_append, List.length_cons, List.length_nil]
      omega
end
end K1
set_option Elab.async false
set_option linter.all false
set_option maxRecDepth 100000
set_option maxHeartbeats 4000000
namespace K1
open PySem L2 Gd PySem.ExG
set_option exponentiation.threshold 10000
theorem smL_of {n k : Nat} : ∀ {ds : List PyData}, PyData.showableAll ds = true → PyData.depthAll ds ≤ k → (∀ t ∈ PyData.shownAll ds, t.length ≤ n) → SmL n k ds
  | [], _, _, _ => ⟨fun d hd => by cases hd⟩
  | d :: ds, h1, h2, h3 => by
    have h1' : (PyData.showable d && PyData.showableAll ds) = true := h1
    rw [Bool.and_eq_true] at h1'
    have h2' : max (PyData.depth d) (PyData.depthAll ds) ≤ k := h2
    have h2'' := Nat.max_le.mp h2'
    have ih := smL_of (ds := ds) (n := n) (k := k) h1'.2 h2''.2 (fun t ht => h3 t (List.mem_cons_of_mem _ ht))
    refine ⟨fun x hx => ?_⟩
    rcases List.mem_cons.mp hx with rfl | hx
    · exact ⟨h1'.1, h2''.1, h3 _ List.mem_cons_self⟩
    · exact ih.all x hx
theorem piled_ge : ∀ ts : List Str, 2 * ts.length ≤ piled ts
  | [] => Nat.le_refl _
  | t :: ts => by
    rw [piled_cons, List.length_cons]
    have := piled_ge ts
    omega
theorem sm_tup_items {n k : Nat} {ds : List PyData} (h : Sm n k (.tuple ds)) : SmL n k ds ∧ ds.length ≤ n := by
  have hz : (tupleText (PyData.shownAll ds)).length ≤ n := h.ln
  refine ⟨smL_of h.sh ?_ (fun t ht => Nat.le_trans (tupleText_mem_le ht) hz), ?_⟩
  · have : PyData.depthAll ds + 1 ≤ k := h.dp
    omega
  · by_cases e : ds = []
    · subst e
      exact Nat.zero_le _
    · have e2 : PyData.shownAll ds ≠ [] := fun z => by
        have := shownAll_length ds
        rw [z] at this
        exact e (List.length_eq_zero_iff.mp this.symm)
      have h1 := join_length_add (PyData.shownAll ds) e2
      have h2 := piled_ge (PyData.shownAll ds)
      rw [shownAll_length] at h2
      unfold tupleText at hz
      rw [strLen_append, strLen_append] at hz
      have e3 : (Str.ofString "(").length = 1 := by decide +kernel
      have e4 : 1 ≤ (Str.ofString (if ((PyData.shownAll ds).length == 1) = true then ",)" else ")")).length := by
        split <;> decide +kernel
      omega
theorem thL_of {n k : Nat} {H : Hp} {m : Addr} : ∀ {vs : List V} {ds : List PyData}, DaL (off H m) vs ds → SmL n k ds → ThL n k H m vs
  | _, _, .nil, _ => ThL.nil
  | _, _, .cons h r, s => ThL.cons ⟨_, h, s.all _ List.mem_cons_self⟩ (thL_of r ⟨fun d hd => s.all d (List.mem_cons_of_mem _ hd)⟩)
theorem Bnt.split {K : PySem.W.Frag} {L : Nat} {H : Hp} {m : Addr} {v : V} (b : Bnt L H m v) :
    (∃ p ys, v = .ref p ∧ H p = some (.tup ys) ∧ ThL 640 3 H m ys ∧ ys.length ≤ L + 640) ∨ ∃ t : String, TyX K H v (.type t) ∧ kitB t "tuple" = some false := by
  cases b with
  | tup p ys e n h t l => exact .inl ⟨p, ys, e, h, t, by omega⟩
  | lst p ys e n h t l =>
    subst e
    exact .inr ⟨"list", .base (.lst h), by decide +kernel⟩
  | any h =>
    obtain ⟨d, hd, sm⟩ := h.ex
    have hk := kit_tuple d
    have ty := Gd.Da.ty (K := K) (hd.mono off_sub)
    cases hd with
    | tup e r =>
      obtain ⟨q1, q2⟩ := sm_tup_items sm
      have := r.length
      exact .inl ⟨_, _, rfl, off_sub _ _ e, thL_of r q1, by omega⟩
    | non => exact .inr ⟨_, ty, hk⟩
    | bl b => exact .inr ⟨_, ty, hk⟩
    | int i => exact .inr ⟨_, ty, hk⟩
    | str x => exact .inr ⟨_, ty, hk⟩
    | lst e r => exact .inr ⟨_, ty, hk⟩
    | dic e r => exact .inr ⟨_, ty, hk⟩
/-- _law_odd(m, frame) -/
def spOdd : Sp := fun vs H Q _ => ∃ (m c : Addr) (v : V) (n : Nat), vs = [.ref m, v] ∧ MOk H m c n ∧ n ≤ 60000 ∧ Frm H m v ∧
  ∀ (r : V) (H' : Hp), Thg 10000000 20 H' m r → MOk H' m c (n + 10) → Grow m H H' → Q r H'
structure TxOd (K : PySem.W.Frag) (mg : Str → Option Value) (fD fO fA fB : Addr) (fdD fdO fdA fdB : FuncData) : Prop where
  tb : TxB K mg fD fO fA fdD fdO fdA
  bent : At K mg "_law_bent" sBent ["m", "sheet"] fB fdB
  tuple : mg "tuple" = none
  isinstance : mg "isinstance" = none
section
variable {P : Program} {w : World} {K : PySem.W.Frag} {mg : Str → Option Value} {base : Heap} {fD fO fA fB : Addr} {fdD fdO fdA fdB : FuncData}
theorem scOdd : FnScope ["m", "frame", "hands", "sheet", "how", "again"] ["m", "frame"] (defScope sOdd) := ⟨rfl, rfl, rfl, by decide +kernel, rfl, by decide +kernel, by decide +kernel⟩
theorem ok_odd {f : Addr} {fd : FuncData} (F : Fun K "_law_odd" "_law_odd" sOdd f fd) (T : TxOd K mg fD fO fA fB fdD fdO fdA fdB) : FnOk P w K mg base CX0 5 f fd ["m", "frame"] spOdd := by
  have GO : FnOk P w K mg base CX0 2 fO fdO ["m", "some"] spOf := ok_of T.tb.to.of.F T.tb.to.td
  have GD : FnOk P w K mg base CX0 1 fD fdD ["m", "many"] spDraw := ok_draw T.tb.to.td.draw.F T.tb.to.td.tx
  have GA : FnOk P w K mg base CX0 3 fA fdA ["m"] spAny := ok_any T.tb.any.F T.tb.to
  have GB : FnOk P w K mg base CX0 4 fB fdB ["m", "sheet"] spBent := ok_bent T.bent.F T.tb
  refine F.ok scOdd (fun vs H Q E h => ?_) (fun cdv A outer s H vs Q E hr h => ?_)
  · obtain ⟨m, c, v, n, rfl, _⟩ := h
    rfl
  · obtain ⟨m, c, v, n, rfl, M, hn, Fr, k⟩ := h
    have nd := scOdd.nd
    have hr1 : Room 1 _ := hr.mono (by decide)
    have hr2 : Room 2 _ := hr.mono (by decide)
    have hr3 : Room 3 _ := hr.mono (by decide)
    refine ⟨_, pss_cons (ps_asg (pv 1) (pg_tup (by rfl) (pgs_cons (pg_name (i := 2) nd rfl (.inl rfl)) (pgs_cons (pg_name (i := 3) nd rfl (.inl rfl)) pgs_nil))))
      (pss_cons (ps_set (i := 4) nd rfl (Or.inl rfl) (pe_call GD hr1 rfl T.tb.to.td.draw.g T.tb.to.td.draw.F.kp T.tb.to.td.draw.b .nil pass0 (pa_cons (pv 0) (pa_cons pe_int pa_nil))))
      (pss_cons (ps_if (pt_cmpR op_eq (pv 4) pe_int (nomark _))
        (pss_one (ps_ret (pe_tup (pa_cons (pe_call GA hr3 rfl T.tb.any.g T.tb.any.F.kp T.tb.any.b .nil pass0 (pa_cons (pv 0) pa_nil)) (pa_cons (pv 3) pa_nil))))) pss_nil)
      (pss_cons (ps_if (pt_cmpR op_eq (pv 4) pe_int (nomark _))
        (pss_one (ps_ret (pe_tup (pa_cons (pe_call GA hr3 rfl T.tb.any.g T.tb.any.F.kp T.tb.any.b .nil pass0 (pa_cons (pv 0) pa_nil)) (pa_cons (pe_call GB hr rfl T.bent.g T.bent.F.kp T.bent.b .nil pass0 (pa_cons (pv 0) (pa_cons (pv 3) pa_nil))) pa_nil))))) pss_nil)
      (pss_cons (ps_if (pt_cmpR op_lt (pv 4) pe_int (nomark _))
        (pss_one (ps_ret (pe_tup (pa_cons (pv 2) (pa_cons (pe_call GB hr rfl T.bent.g T.bent.F.kp T.bent.b .nil pass0 (pa_cons (pv 0) (pa_cons (pv 3) pa_nil))) pa_nil))))) pss_nil)
      (pss_cons (ps_if (pt_cmpR op_eq (pv 4) pe_int (nomark _))
        (pss_cons (ps_set (i := 5) nd rfl (Or.inl rfl) (pe_call GB hr rfl T.bent.g T.bent.F.kp T.bent.b .nil pass0 (pa_cons (pv 0) (pa_cons (pv 3) pa_nil))))
        (pss_one (ps_ret (pe_tup (pa_cons (pv 2) (pa_cons (pe_ifExp (PW.pt (pw_and (pt_val (pe_callB call_isi (by rfl) T.isinstance (by decide +kernel) (pa_cons (pv 5) (pa_cons (pe_bltn (v := .ty "tuple") (by rfl) T.tuple (by decide +kernel) rfl) pa_nil))))
            (pw_and1 (pt_cmpR (op_ne0 hr.units0) (pv 5) (pe_tup pa_nil) (nomark _)))))
          (pe_call GB hr rfl T.bent.g T.bent.F.kp T.bent.b .nil pass0 (pa_cons (pv 0) (pa_cons (pv 5) pa_nil))) (pv 5)) pa_nil)))))) pss_nil)
      (pss_cons (ps_if (pt_cmpR op_eq (pv 4) pe_int (nomark _))
        (pss_one (ps_ret (pe_call GO hr2 rfl T.tb.to.of.g T.tb.to.of.F.kp T.tb.to.of.b .nil pass0 (pa_cons (pv 0) (pa_cons (pe_lst (pa_cons (pe_callTy call_list_of (by rfl) T.tb.list (by decide +kernel) (pa_cons (pv 1) pa_nil))
          (pa_cons (pe_op op_catM (pv 1) (pe_tup (pa_cons pe_int pa_nil))) (pa_cons (pe_slice sl_tupM (pv 1) po_none (po_some pe_int)) (pa_cons (pe_slice sl_tupM (pv 1) (po_some pe_int) po_none)
          (pa_cons (pe_tup (pa_cons (pv 3) (pa_cons (pv 2) pa_nil))) (pa_cons (pe_call GA hr3 rfl T.tb.any.g T.tb.any.F.kp T.tb.any.b .nil pass0 (pa_cons (pv 0) pa_nil)) pa_nil))))))) pa_nil))))) pss_nil)
      (pss_one (ps_ret (pe_ifExp (pt_cmpR op_eq (pe_call GD hr1 rfl T.tb.to.td.draw.g T.tb.to.td.draw.F.kp T.tb.to.td.draw.b .nil pass0 (pa_cons (pv 0) (pa_cons pe_int pa_nil))) pe_int (nomark _))
        (pe_disp (pps_cons pe_str (pv 2) (pps_cons pe_str (pv 3) pps_nil)) (by rfl) (by rfl) (fun z => by cases z) (by decide))
        (pe_lst (pa_cons (pv 2) (pa_cons (pe_callTy call_list_of (by rfl) T.tb.list (by decide +kernel) (pa_cons (pv 3) pa_nil)) pa_nil)))))))))))), ?_⟩
    obtain ⟨p, q, hands, gs, rfl, pm, qm, ep, eq, l1, l8, hb, gb⟩ := Fr.ex
    have sz : ∀ k : Nat, k ≤ 5000 → k ≤ sizeLine := fun k h => Nat.le_trans h (by rw [sizeLine_eq]; decide)
    have big : ∀ j : Int, 0 ≤ j → j < 1000 → j.natAbs < 2 ^ 8000 := fun j a b => Nat.lt_trans (show j.natAbs < 2 ^ 10 by omega) (Nat.pow_lt_pow_right (by decide) (by decide))
    have ts : ∀ H', ThL 640 3 H' m (gs.map V.int) := fun H' => ⟨fun v hv => by
      obtain ⟨g, hg, rfl⟩ := List.mem_map.mp hv
      exact (th_int3 (gb g hg)).up (by decide) (by decide)⟩
    have th : ∀ H', Thg 1300000 4 H' m (.int hands) := fun H' => (th_int3 hb).up (by decide) (by decide)
    have tq : ∀ H', H' q = some (.tup (gs.map V.int)) → Thg 1300000 4 H' m (.ref q) := fun H' h => (th_tup qm h (ts H')).up (by rw [List.length_map]; omega) (by decide)
    have pair : ∀ (H' : Hp) (a : Addr) (x y : V), a ≠ m → H' a = some (.tup [x, y]) → Thg 1300000 4 H' m x → Thg 1300000 4 H' m y → Thg 10000000 20 H' m (.ref a) := fun H' a x y n h tx ty =>
      (th_tup n h (ThL.cons tx (ThL.cons ty ThL.nil))).up (by simp only [List.length_cons, List.length_nil]; omega) (by decide)
    have lg : 0 < (gs.map V.int).length ∧ (gs.map V.int).length ≤ 8 := by rw [List.length_map]; omega
    -- hands, sheet = frame
    refine ⟨_, rfl, p, _, rfl, SqT.of ep, rfl, _, _, rfl, _, _, rfl, rfl, ?_⟩
    -- how
    refine ⟨_, rfl, m, c, 7, n, rfl, M, by omega, by decide, big 7 (by decide) (by decide), fun r H1 q0 q1 M1 g1 => ?_⟩
    have ep1 := g1 _ _ pm ep
    have eq1 := g1 _ _ qm eq
    refine ⟨_, rfl, rfl, _, rfl, ?_⟩
    refine ite2 (fun _ => ?_) (fun _ => ?_)
    · -- how == 0
      refine ⟨_, rfl, m, c, n + 1, rfl, M1, by omega, fun v H2 tv M2 g2 => ?_⟩
      refine ⟨_, rfl, sz 2 (by decide), fun a ha => ?_⟩
      have gn := Grow.new (m := m) (o := .tup [v, .ref q]) ha
      refine k _ _ (pair _ a v (.ref q) (M2.apart ha) upd_same ((tv.grow gn).up (by decide) (by decide)) (tq _ (gn _ _ qm (g2 _ _ qm eq1)))) ((M2.new ha).up (by omega)) (g1.trans (g2.trans gn))
    refine ⟨_, rfl, rfl, _, rfl, ?_⟩
    refine ite2 (fun _ => ?_) (fun _ => ?_)
    · -- how == 1
      refine ⟨_, rfl, m, c, n + 1, rfl, M1, by omega, fun v H2 tv M2 g2 => ?_⟩
      refine ⟨_, rfl, _, rfl, m, c, q, _, n + 2, rfl, M2, by omega, g2 _ _ qm eq1, lg.1, by omega, ts H2, fun z H3 bz M3 g3 => ?_⟩
      refine ⟨sz 2 (by decide), fun a ha => ?_⟩
      have gn := Grow.new (m := m) (o := .tup [v, z]) ha
      refine k _ _ (pair _ a v z (M3.apart ha) upd_same (((tv.grow g3).grow gn).up (by decide) (by decide)) ((bz.grow gn).thg (by omega))) ((M3.new ha).up (by omega)) (g1.trans (g2.trans (g3.trans gn)))
    refine ⟨_, rfl, _, _, rfl, rfl, _, rfl, ?_⟩
    refine ite2 (fun _ => ?_) (fun _ => ?_)
    · -- how < 4
      refine ⟨_, rfl, _, rfl, _, rfl, m, c, q, _, n + 1, rfl, M1, by omega, eq1, lg.1, by omega, ts H1, fun z H3 bz M3 g3 => ?_⟩
      refine ⟨sz 2 (by decide), fun a ha => ?_⟩
      have gn := Grow.new (m := m) (o := .tup [.int hands, z]) ha
      refine k _ _ (pair _ a (.int hands) z (M3.apart ha) upd_same (th _) ((bz.grow gn).thg (by omega))) ((M3.new ha).up (by omega)) (g1.trans (g3.trans gn))
    refine ⟨_, rfl, rfl, _, rfl, ?_⟩
    refine ite2 (fun _ => ?_) (fun _ => ?_)
    · -- how == 4
      refine ⟨_, rfl, _, rfl, m, c, q, _, n + 1, rfl, M1, by omega, eq1, lg.1, by omega, ts H1, fun z H3 bz M3 g3 => ?_⟩
      -- again, as it is
      have asis : ∀ (a : Addr) (H4 : Hp), Grow m H3 H4 → MOk H4 m c (n + 5) → H4 a = none → Q (.ref a) (upd H4 a (.tup [.int hands, z])) := fun a H4 g4 M4 ha => by
        have gn := Grow.new (m := m) (o := .tup [.int hands, z]) ha
        exact k _ _ (pair _ a (.int hands) z (M4.apart ha) upd_same (th _) (((bz.grow g4).grow gn).thg (by omega))) ((M4.new ha).up (by omega)) (g1.trans (g3.trans (g4.trans gn)))
      refine ⟨_, rfl, ?_⟩
      rcases bz.split (K := K) with ⟨b, ys, ez, hy, ty, ly⟩ | ⟨t, ty, ht⟩
      · subst ez
        refine ⟨_, rfl, _, _, _, _, _, rfl, .ty _, .base (.tup hy), kit_ty (show kitB "tuple" "tuple" = some true by decide +kernel), _, rfl, ?_⟩
        refine iteT ⟨_, rfl, sz 0 (by decide), fun a1 ha1 => ?_⟩
        have gn1 := Grow.new (m := m) (o := .tup []) ha1
        have bm := M3.neT hy
        refine ⟨b, a1, _, rfl, rfl, gn1 _ _ bm hy, upd_same, _, rfl, ?_⟩
        cases ys with
        | nil =>
          refine iteF ⟨_, rfl, sz 2 (by decide), fun a ha => ?_⟩
          exact asis a _ gn1 (M3.new ha1) ha
        | cons y0 ys =>
          refine iteT ⟨_, rfl, _, rfl, m, c, b, _, n + 5, rfl, M3.new ha1, by omega, gn1 _ _ bm hy, (by simp), (by omega), ty.grow gn1, fun z2 H5 bz2 M5 g5 => ?_⟩
          refine ⟨sz 2 (by decide), fun a ha => ?_⟩
          have gn := Grow.new (m := m) (o := .tup [.int hands, z2]) ha
          refine k _ _ (pair _ a (.int hands) z2 (M5.apart ha) upd_same (th _) ((bz2.grow gn).thg (by omega))) ((M5.new ha).up (by omega)) (g1.trans (g3.trans (gn1.trans (g5.trans gn))))
      · refine ⟨_, rfl, _, _, _, _, _, rfl, .ty _, ty, kit_ty ht, _, rfl, ?_⟩
        refine iteF (iteF ⟨_, rfl, sz 2 (by decide), fun a ha => ?_⟩)
        exact asis a _ (Grow.refl _ _) M3 ha
    refine ⟨_, rfl, rfl, _, rfl, ?_⟩
    refine ite2 (fun _ => ?_) (fun _ => ?_)
    · -- how == 5
      have tf : ∀ H', H' q = some (.tup (gs.map V.int)) → ThL 1300000 4 H' m [.int hands, .ref q] := fun H' h => ThL.cons (th H') (ThL.cons (tq H' h) ThL.nil)
      refine ⟨_, rfl, _, rfl, p, _, rfl, .inr (SqT.of ep1), fun a1 h1 => ?_⟩
      have d1 := Grow.new (m := m) (o := .lst [.int hands, .ref q]) h1
      have M2 := M1.new (o := .lst [.int hands, .ref q]) h1
      refine ⟨_, rfl, sz 1 (by decide), fun a2 h2 => ?_⟩
      have d2 := Grow.new (m := m) (o := .tup [.int 1]) h2
      have M3 := M2.new (o := .tup [.int 1]) h2
      have ep3 := d2 _ _ pm (d1 _ _ pm ep1)
      refine ⟨p, a2, _, _, rfl, rfl, ep3, upd_same, sz _ (by simp), fun a3 H3 e3 hp3 => ?_⟩
      have M4 := e3.mok M3
      have d3 := e3.grow m
      have ep4 := d3 _ _ pm ep3
      refine ⟨_, rfl, _, rfl, p, _, rfl, ep4, fun a4 H4 e4 hp4 => ?_⟩
      have M5 := e4.mok M4
      have d4 := e4.grow m
      have ep5 := d4 _ _ pm ep4
      refine ⟨_, rfl, _, rfl, p, _, rfl, ep5, fun a5 H5 e5 hp5 => ?_⟩
      have M6 := e5.mok M5
      have d5 := e5.grow m
      refine ⟨_, rfl, _, rfl, sz 2 (by decide), fun a6 h6 => ?_⟩
      have d6 := Grow.new (m := m) (o := .tup [.ref q, .int hands]) h6
      have M7 := M6.new (o := .tup [.ref q, .int hands]) h6
      refine ⟨_, rfl, m, c, n + 1, rfl, M7, by omega, fun v H7 tv M8 d7 => ?_⟩
      refine ⟨sz 6 (by decide), fun a8 h8 => ?_⟩
      have d8 := Grow.new (m := m) (o := .lst [.ref a1, .ref a3, .ref a4, .ref a5, .ref a6, v]) h8
      have M9 := M8.new (o := .lst [.ref a1, .ref a3, .ref a4, .ref a5, .ref a6, v]) h8
      refine ⟨m, c, a8, _, n + 2, rfl, M9, by omega, M8.apart h8, upd_same, (by simp), (by simp), fun z H9 hz M10 g9 => ?_⟩
      have t78 := d7.trans d8
      have t6 := d6.trans t78
      have t5 := d5.trans t6
      have t4 := d4.trans t5
      have t3 := d3.trans t4
      have t2 := d2.trans t3
      have t1 := d1.trans t2
      have fq := t1 _ _ qm eq1
      refine k _ _ (Thg.grow (H := upd H7 a8 (.lst [.ref a1, .ref a3, .ref a4, .ref a5, .ref a6, v])) ?_ g9) (M10.up (by omega)) (g1.trans (t1.trans g9))
      have n1 := M1.apart h1
      have n3 := M4.neT hp3
      have n4 := M5.neT hp4
      have n5 := M6.neT hp5
      have n6 := M6.apart h6
      have up2 : ∀ {a : Addr} {ys : List V}, ys.length ≤ 3 → Thg (ys.length * (1300000 + 2) + 3) (4 + 1) (upd H7 a8 (.lst [.ref a1, .ref a3, .ref a4, .ref a5, .ref a6, v])) m (.ref a) → Thg 10000000 20 (upd H7 a8 (.lst [.ref a1, .ref a3, .ref a4, .ref a5, .ref a6, v])) m (.ref a) := fun h t => t.up (by omega) (by decide)
      have cl : ∀ lo hi, (cutV [V.int hands, .ref q] lo hi).length ≤ 2 := fun lo hi => cutV_length _ lo hi
      simp only [List.mem_cons, List.not_mem_nil, or_false] at hz
      rcases hz with rfl | rfl | rfl | rfl | rfl | rfl
      · exact up2 (by simp) (th_lst n1 (t2 _ _ n1 upd_same) (tf _ fq))
      · exact up2 (by simp) (th_tup n3 (t4 _ _ n3 hp3) (ThL.append (tf _ fq) (ThL.cons ((ti 1).up (by decide) (by decide)) ThL.nil)))
      · exact up2 (Nat.le_succ_of_le (cl _ _)) (th_tup n4 (t5 _ _ n4 hp4) ((tf _ fq).sub fun v hv => cut_mem hv))
      · exact up2 (Nat.le_succ_of_le (cl _ _)) (th_tup n5 (t6 _ _ n5 hp5) ((tf _ fq).sub fun v hv => cut_mem hv))
      · exact up2 (by simp) (th_tup n6 (t78 _ _ n6 upd_same) (ThL.cons (tq _ fq) (ThL.cons (th _) ThL.nil)))
      · exact (tv.grow d8).up (by decide) (by decide)
    · -- the rest
      refine ⟨_, rfl, m, c, 2, n + 1, rfl, M1, by omega, by decide, big 2 (by decide) (by decide), fun r2 H2 q2 q3 M2 g2 => ?_⟩
      have eq2 := g2 _ _ qm eq1
      refine ⟨rfl, _, rfl, ?_⟩
      refine ite2 (fun _ => ?_) (fun _ => ?_)
      · intro a ha
        refine ⟨_, rfl, _, rfl, upd_same, [((.inr "hands" : Key), .int hands), ((.inr "gaps" : Key), .ref q)], rfl, (by simp), ?_⟩
        have kne : ¬ (Sum.inr "hands" : Key) = Sum.inr ("gaps" : Str) := inr_ne (by decide +kernel)
        have em : mergeK [] [((.inr "hands" : Key), V.int hands), ((.inr "gaps" : Key), .ref q)] = [((.inr "hands" : Key), V.int hands), ((.inr "gaps" : Key), .ref q)] := by
          simp [mergeK, putK, kne]
        rw [em, upd_upd]
        have gn := Grow.new (m := m) (o := .dK [((.inr "hands" : Key), V.int hands), ((.inr "gaps" : Key), .ref q)]) ha
        refine k _ _ ((th_dic (M2.apart ha) upd_same (ThL.cons (th _) (ThL.cons (tq _ (gn _ _ qm eq2)) ThL.nil)) (fun x hx => ?_)).up (by simp) (by decide)) ((M2.new ha).up (by omega)) (g1.trans (g2.trans gn))
        simp only [List.mem_cons, List.not_mem_nil, or_false] at hx
        rcases hx with rfl | rfl
        · exact (sm_str (n := 20) (by decide +kernel)).up (by decide) (by decide)
        · exact (sm_str (n := 20) (by decide +kernel)).up (by decide) (by decide)
      · refine ⟨_, rfl, _, rfl, q, _, rfl, .inr (SqT.of eq2), fun a1 h1 => ⟨sz 2 (by decide), fun a2 h2 => ?_⟩⟩
        have d1 := Grow.new (m := m) (o := .lst (gs.map V.int)) h1
        have M3 := M2.new (o := .lst (gs.map V.int)) h1
        have d2 := Grow.new (m := m) (o := .lst [.int hands, .ref a1]) h2
        have n1 := M2.apart h1
        have t1 : Thg 1300000 4 (upd (upd H2 a1 (.lst (gs.map V.int))) a2 (.lst [.int hands, .ref a1])) m (.ref a1) := (th_lst n1 (d2 _ _ n1 upd_same) (ts _)).up (by rw [List.length_map]; omega) (by decide)
        exact k _ _ ((th_lst (M3.apart h2) upd_same (ThL.cons (th _) (ThL.cons t1 ThL.nil))).up (by simp) (by decide)) ((M3.new h2).up (by omega)) (g1.trans (g2.trans (d1.trans d2)))
end
end K1
set_option Elab.async false
set_option linter.all false
set_option maxRecDepth 100000
set_option maxHeartbeats 4000000
namespace K1
open PySem L2 Gd PySem.ExG
set_option exponentiation.threshold 10000
theorem cut_ints (ns : List Int) (lo hi : Option Int) : ∃ ms : List Int, cutV (ns.map V.int) lo hi = ms.map V.int ∧ ms.length ≤ ns.length := by
  refine ⟨(ns.drop (HT.sIx (ns.map V.int).length 0 lo)).take (HT.sIx (ns.map V.int).length (ns.map V.int).length hi - HT.sIx (ns.map V.int).length 0 lo), ?_, ?_⟩
  · unfold cutV
    rw [List.map_take, List.map_drop]
  · rw [List.length_take, List.length_drop]
    omega
theorem merge_mD (l sd : Int) (c : Addr) (sp : Int) : mergeK [] [((.inr "left" : Key), V.int l), ((.inr "seed" : Key), .int sd), ((.inr "cells" : Key), .ref c), ((.inr "spot" : Key), .int sp)] = mD l sd c sp := by
  have h1 := inr_ne sne1
  have h2 := inr_ne sne2
  have h3 := inr_ne sne3
  have h4 := inr_ne sne4
  have h5 := inr_ne sne5
  have h6 := inr_ne sne6
  simp [mergeK, putK, h1, h2, h3, h4, h5, h6, mD]
/-- _law_begun(script, k): the draws' state, new -/
def spBegun (K : PySem.W.Frag) : Sp := fun vs H Q _ => ∃ (a : Addr) (ns : List Int) (k : Int), vs = [.ref a, .int k] ∧ SqL K H a (ns.map V.int) ∧ ns.length ≤ 63 ∧ 0 ≤ k ∧ k ≤ 100 ∧
  ∀ (m c : Addr) (H' : Hp), H m = none → MOk H' m c 0 → Same H H' → Q (.ref m) H'
section
variable {P : Program} {w : World} {K : PySem.W.Frag} {mg : Str → Option Value} {base : Heap}
theorem scBegun : FnScope ["script", "k", "cells", "cell", "great", "seed"] ["script", "k"] (defScope sBegun) := ⟨rfl, rfl, rfl, by decide +kernel, rfl, by decide +kernel, by decide +kernel⟩
theorem ok_begun {f : Addr} {fd : FuncData} (F : Fun K "_law_begun" "_law_begun" sBegun f fd) (T : Txt K mg) : FnOk P w K mg base CX0 1 f fd ["script", "k"] (spBegun K) := by
  refine F.ok scBegun (fun vs H Q E h => ?_) (fun cdv A outer s H vs Q E hr h => ?_)
  · obtain ⟨a, ns, k, rfl, _⟩ := h
    rfl
  · obtain ⟨a, ns, k, rfl, hS, hl, k0, k1, kq⟩ := h
    have nd := scBegun.nd
    refine ⟨_, pss_cons (ps_set (i := 2) nd rfl (Or.inl rfl) (pe_op op_cat (pe_slice sl_list (pv 0) (po_some (pv 1)) po_none) (pe_slice sl_list (pv 0) po_none (po_some (pv 1)))))
      (pss_cons (ps_setLc (i := 4) (own := [("cell", 3)]) (g := gName 3) rfl nd rfl rfl (sw_true rfl rfl rfl (by decide +kernel)) (pi_list (pv 2))
          (blkOk_by (N := ["script", "k", "cells", "cell", "great", "seed"]) (sc := defScope sBegun) (by decide +kernel))
          (fun _ _ _ _ _ => by exact (pg_name (i := 3) nd rfl (Or.inl rfl)))
          (fun _ _ _ _ _ => pts_one (pt_cmpR op_ge (pv 3) (pe_op op_pow pe_int pe_int) (nomark _)))
          (fun _ _ _ _ _ => pv 3))
      (pss_cons (ps_set (i := 5) nd rfl (Or.inl rfl) (pe_op op_add pe_int (pv 1)))
      (pss_cons (ps_for PassesOwn.never rfl (pi_list (pv 2)) (pg_name (i := 3) nd rfl (Or.inl rfl))
        (pss_one (ps_set (i := 5) nd rfl (Or.inl rfl) (pe_op op_mod (pe_callTy call_int1 (by rfl) T.int (by decide +kernel) (pa_cons (pe_op op_add (pe_op op_mul (pv 5) pe_int) (pv 3)) pa_nil)) pe_int))))
      (pss_one (ps_ret (pe_disp (pps_cons pe_str (pe_ifExp (pt_cmpR (op_neD hr.units) (pv 4) (pe_lst pa_nil) (nomark _)) (pe_ix ix_list (pv 4) pe_int (fun _ _ => rfl)) pe_int)
        (pps_cons pe_str (pv 5) (pps_cons pe_str (pe_op op_cat (pv 2) (pe_lst (pa_cons (pe_op op_add (pe_op op_mul pe_int (pv 1)) pe_int) pa_nil))) (pps_cons pe_str pe_int pps_nil))))
        (by rfl) (by rfl) (fun z => by cases z) (by decide))))))), ?_⟩
    have sz : ∀ k : Nat, k ≤ 5000 → k ≤ sizeLine := fun k h => Nat.le_trans h (by rw [sizeLine_eq]; decide)
    obtain ⟨ms1, e1, l1⟩ := cut_ints ns (some k) none
    obtain ⟨ms2, e2, l2⟩ := cut_ints ns none (some k)
    -- cells
    refine ⟨_, rfl, _, rfl, _, rfl, a, _, rfl, hS, fun p1 h1 => ?_⟩
    rw [e1]
    have s1 := Same.new (o := .lst (ms1.map V.int)) h1
    refine ⟨_, rfl, _, rfl, _, rfl, a, _, rfl, s1.seq hS, fun p2 h2 => ?_⟩
    rw [e2]
    have s2 := s1.trans (Same.new (o := .lst (ms2.map V.int)) h2)
    refine ⟨p1, p2, _, _, rfl, rfl, Same.new h2 _ _ upd_same, upd_same, sz _ (by rw [List.length_map, List.length_map]; omega), fun p3 h3 => ?_⟩
    rw [← List.map_append]
    have s3 := s2.trans (Same.new (o := .lst ((ms1 ++ ms2).map V.int)) h3)
    have lc : (ms1 ++ ms2).length ≤ 126 := by rw [List.length_append]; omega
    generalize hG : upd (upd (upd H p1 (.lst (ms1.map V.int))) p2 (.lst (ms2.map V.int))) p3 (.lst ((ms1 ++ ms2).map V.int)) = H3 at s3 ⊢
    have hc : H3 p3 = some (.lst ((ms1 ++ ms2).map V.int)) := by rw [← hG]; exact upd_same
    -- great
    refine ⟨_, rfl, p3, rfl, ⟨_, SqL.of hc⟩, fun D hD => ?_⟩
    refine lc_list (K := K) (a := p3) (xs := (ms1 ++ ms2).map V.int) (fun i H' => Same H3 H' ∧ ∃ acc : List Int, H' D = some (.lst (acc.map V.int)) ∧ acc.length ≤ i)
      ⟨Same.new hD, [], upd_same, Nat.le_refl _⟩ (fun i H' _ ⟨s4, _⟩ => SqL.of (s4 _ _ hc)) ?_ ?_
    · rintro i x H4 hx ⟨s4, acc, ha, hac⟩
      have hi : i < 126 := by
        have := (List.getElem?_eq_some_iff.mp hx).1
        rw [List.length_map] at this
        omega
      obtain ⟨z, rfl⟩ : ∃ z, x = V.int z := by
        rw [List.getElem?_map] at hx
        cases e : (ms1 ++ ms2)[i]? with
        | none =>
          rw [e] at hx
          cases hx
        | some z =>
          rw [e] at hx
          exact ⟨z, (Option.some.inj hx).symm⟩
      refine ⟨rfl, _, rfl, _, _, rfl, rfl, ⟨by decide, by decide, by decide⟩, _, _, rfl, rfl, _, rfl, ?_⟩
      refine ite2 (fun _ => ?_) (fun _ => ?_)
      · refine ⟨_, rfl, _, ha, ?_, ?_⟩
        · rw [List.length_map, sizeLine_eq]
          omega
        · refine ⟨fun b o q => ?_, acc ++ [z], ?_, ?_⟩
          · rw [upd_ne (ne_of_none q hD)]
            exact s4 b o q
          · rw [upd_same, List.map_append]
            rfl
          · rw [List.length_append]
            exact Nat.succ_le_succ hac
      · exact ⟨s4, acc, ha, Nat.le_succ_of_le hac⟩
    · rintro H4 ⟨s4, acc, ha, hac⟩
      -- seed
      refine ⟨_, rfl, _, _, rfl, rfl, ?_⟩
      refine ⟨_, rfl, p3, rfl, ⟨_, SqL.of (s4 _ _ hc)⟩, for_list (K := K) (a := p3) (xs := (ms1 ++ ms2).map V.int)
        (fun i σ H' => ∃ (c5 : Option V) (sd : Int), σ = [some (.ref a), some (.int k), some (.ref p3), c5, some (.ref D), some (.int sd)] ∧ Same H4 H') ⟨none, _, rfl, Same.refl _⟩
        (fun i σ H' _ ⟨_, _, _, s5⟩ => SqL.of (s5 _ _ (s4 _ _ hc))) ?_ ?_⟩
      · rintro i x σ H5 hx ⟨c5, sd, rfl, s5⟩
        obtain ⟨z, rfl⟩ : ∃ z, x = V.int z := by
          rw [List.getElem?_map] at hx
          cases e : (ms1 ++ ms2)[i]? with
          | none =>
            rw [e] at hx
            cases hx
          | some z =>
            rw [e] at hx
            exact ⟨z, (Option.some.inj hx).symm⟩
        refine ⟨_, rfl, _, _, rfl, rfl, .inr ⟨by decide, by decide⟩, _, rfl, _, _, rfl, rfl, .inl ⟨_, rfl, ?_⟩⟩
        refine ⟨_, _, rfl, rfl, (by show (0 : Int) < 2147483647; decide), ?_⟩
        exact ⟨_, _, rfl, s5⟩
      · rintro σ H5 ⟨c5, sd, rfl, s5⟩
        have ha5 := s5 _ _ ha
        have hc5 := s5 _ _ (s4 _ _ hc)
        intro m hm
        have s6 := Same.new (o := .dK []) hm
        have hm0 : H m = none := (s3.trans (s4.trans s5)).free hm
        have tot := (s3.trans (s4.trans s5))
        refine ⟨_, rfl, Nat.zero_le _, fun q1 hq1 => ?_⟩
        have s7 := s6.trans (Same.new (o := .lst []) hq1)
        have hmm : upd (upd H5 m (.dK [])) q1 (.lst []) m = some (.dK []) := Same.new hq1 _ _ upd_same
        refine ⟨.list (acc.map .int), .list [], .lst (SqL.of (s7 _ _ ha5)) (dp_ints acc), .lst (SqL.of upd_same) .nil, PySem.W.ke_shaped_ints acc, PySem.W.ke_shaped_ints [], _, rfl, ?_⟩
        have kb : CMul 37 k := .inl ⟨by decide, by decide⟩
        have fin : ∀ (l : Int) (q2 q3 : Addr) (o2 o3 : HO), upd (upd H5 m (.dK [])) q1 (.lst []) q2 = none → upd (upd (upd H5 m (.dK [])) q1 (.lst [])) q2 o2 q3 = none →
            o3 = .lst ((ms1 ++ ms2).map V.int ++ [V.int (37 * k + 11)]) →
            Q (.ref m) (upd (upd (upd (upd (upd H5 m (.dK [])) q1 (.lst [])) q2 o2) q3 o3) m (.dK (mergeK [] [((.inr "left" : Key), V.int l), ((.inr "seed" : Key), .int sd), ((.inr "cells" : Key), .ref q3), ((.inr "spot" : Key), .int 0)]))) := by
          intro l q2 q3 o2 o3 h2 h3 ho
          rw [merge_mD]
          have m2 : upd (upd (upd H5 m (.dK [])) q1 (.lst [])) q2 o2 m = some (.dK []) := Same.new h2 _ _ hmm
          have n3 : q3 ≠ m := (ne_of_none m2 h3).symm
          refine kq m q3 _ hm0 ⟨⟨l, sd, 0, (ms1 ++ ms2) ++ [37 * k + 11], upd_same, ?_, ?_, ?_, Int.le_refl _, Int.le_refl _⟩⟩ ?_
          · rw [upd_ne n3, upd_same, ho]
            simp only [List.map_append, List.map_cons, List.map_nil]
          · rw [List.length_append]
            exact Nat.succ_pos _
          · rw [List.length_append]
            show (ms1 ++ ms2).length + 1 ≤ 200
            omega
          · intro b o hb
            have hb5 := tot b o hb
            rw [upd_ne (ne_of_none hb hm0)]
            exact Same.new h3 _ _ (Same.new h2 _ _ (s7 _ _ hb5))
        cases acc with
        | nil =>
          refine iteF ?_
          refine ⟨_, rfl, _, rfl, _, rfl, _, _, rfl, rfl, kb, _, _, rfl, rfl, sz 1 (by decide), fun q2 h2 => ?_⟩
          refine ⟨p3, q2, _, _, rfl, rfl, Same.new h2 _ _ (s7 _ _ hc5), upd_same, sz _ (by rw [List.length_map]; simp only [List.length_cons, List.length_nil]; omega), fun q3 h3 => ?_⟩
          exact ⟨Same.new h3 _ _ (Same.new h2 _ _ hmm), [((.inr "left" : Key), V.int 0), ((.inr "seed" : Key), .int sd), ((.inr "cells" : Key), .ref q3), ((.inr "spot" : Key), .int 0)], rfl, (by simp), fin 0 q2 q3 _ _ h2 h3 rfl⟩
        | cons j acc =>
          refine iteT ⟨_, rfl, D, _, _, _, rfl, rfl, SqL.of (s7 _ _ ha5), atI_nat (j := 0) rfl, ?_⟩
          refine ⟨_, rfl, _, rfl, _, rfl, _, _, rfl, rfl, kb, _, _, rfl, rfl, sz 1 (by decide), fun q2 h2 => ?_⟩
          refine ⟨p3, q2, _, _, rfl, rfl, Same.new h2 _ _ (s7 _ _ hc5), upd_same, sz _ (by rw [List.length_map]; simp only [List.length_cons, List.length_nil]; omega), fun q3 h3 => ?_⟩
          exact ⟨Same.new h3 _ _ (Same.new h2 _ _ hmm), [((.inr "left" : Key), V.int j), ((.inr "seed" : Key), .int sd), ((.inr "cells" : Key), .ref q3), ((.inr "spot" : Key), .int 0)], rfl, (by simp), fin j q2 q3 _ _ h2 h3 rfl⟩
end
end K1
set_option Elab.async false
set_option linter.all false
set_option maxRecDepth 100000
set_option maxHeartbeats 4000000
/-! readings that evaluate to data, from any heap beyond a first one -/
namespace Gd
open PySem L2
def Tv (H0 : Hp) (σ : L2.St) (t : TE) (d : PyData) : Prop := ∀ (H : Hp) (Q : VK), Same H0 H → (∀ v H', Same H H' → Da H' v d → Q v H') → t σ H Q
def Ta (H0 : Hp) (σ : L2.St) (t : TA) (ds : List PyData) : Prop := ∀ (H : Hp) (Q : List V → Hp → Prop), Same H0 H → (∀ vs H', Same H H' → DaL H' vs ds → Q vs H') → t σ H Q
theorem sdl {H H' : Hp} {vs : List V} {ds : List PyData} (e : Same H H') (h : DaL H vs ds) : DaL H' vs ds := h.mono e
section
variable {H0 : Hp} {σ : L2.St}
theorem tv_int (i : Int) : Tv H0 σ (tC (.int i)) (.int i) := fun H Q _ k => k _ H (Same.refl H) (.int i)
theorem tv_bl (b : Bool) : Tv H0 σ (tC (.bl b)) (.bool b) := fun H Q _ k => k _ H (Same.refl H) (.bl b)
theorem tv_str (x : Str) : Tv H0 σ (tC (.str x)) (.str x) := fun H Q _ k => k _ H (Same.refl H) (.str x)
theorem tv_non : Tv H0 σ (tC .non) .none := fun H Q _ k => k _ H (Same.refl H) .non
theorem tv_var {i : Nat} {v : V} {d : PyData} (e : σ[i]? = some (some v)) (h : Da H0 v d) : Tv H0 σ (tVar i) d := fun H Q s k => ⟨v, e, k _ H (Same.refl H) (h.mono s)⟩
theorem ta_nil : Ta H0 σ tNil [] := fun H Q _ k => k _ H (Same.refl H) .nil
theorem ta_cons {t : TE} {d : PyData} {ts : TA} {ds : List PyData} (h : Tv H0 σ t d) (hs : Ta H0 σ ts ds) : Ta H0 σ (tCons t ts) (d :: ds) := fun H Q s k =>
  h H _ s fun v H1 s1 h1 => hs H1 _ (s.trans s1) fun vs H2 s2 h2 => k (v :: vs) H2 (s1.trans s2) (.cons (h1.mono s2) h2)
theorem upd_same_of {H : Hp} {p : Addr} {o : HO} (h : H p = none) : Same H (upd H p o) := fun b u e => by rw [upd_ne (ne_of_none e h)]; exact e
theorem tv_tup {ta : TA} {ds : List PyData} (h : Ta H0 σ ta ds) (hl : ds.length ≤ 5000) : Tv H0 σ (tTup ta) (.tuple ds) := fun H Q s k =>
  h H _ s fun vs H1 s1 h1 => ⟨Nat.le_trans (h1.length ▸ hl) (by rw [sizeLine_eq]; decide), fun p hp => k _ _ (s1.trans (upd_same_of hp)) (.tup upd_same (sdl (upd_same_of hp) h1))⟩
theorem tv_lst {ta : TA} {ds : List PyData} (h : Ta H0 σ ta ds) (hl : ds.length ≤ 5000) : Tv H0 σ (tLst ta) (.list ds) := fun H Q s k =>
  h H _ s fun vs H1 s1 h1 => ⟨Nat.le_trans (h1.length ▸ hl) (by rw [sizeLine_eq]; decide), fun p hp => k _ _ (s1.trans (upd_same_of hp)) (.lst upd_same (sdl (upd_same_of hp) h1))⟩
theorem DaL.append {H : Hp} : ∀ {xs ys : List V} {ds es : List PyData}, DaL H xs ds → DaL H ys es → DaL H (xs ++ ys) (ds ++ es)
  | _, _, _, _, .nil, h => h
  | _, _, _, _, .cons h r, g => .cons h (DaL.append r g)
theorem DaL.rep {H : Hp} {xs : List V} {ds : List PyData} (h : DaL H xs ds) : ∀ n : Nat, DaL H (List.replicate n xs).flatten (List.replicate n ds).flatten
  | 0 => .nil
  | n + 1 => by
    rw [List.replicate_succ, List.replicate_succ, List.flatten_cons, List.flatten_cons]
    exact DaL.append h (DaL.rep h n)
theorem tv_cat {t u : TE} {ds es : List PyData} (h : Tv H0 σ t (.list ds)) (g : Tv H0 σ u (.list es)) (hl : ds.length + es.length ≤ 5000) : Tv H0 σ (tOp rCat t u) (.list (ds ++ es)) := fun H Q s k =>
  h H _ s fun v H1 s1 h1 => g H1 _ (s.trans s1) fun z H2 s2 h2 => by
    have h1' := h1.mono s2
    cases h1' with
    | lst e1 r1 =>
      cases h2 with
      | lst e2 r2 =>
        refine ⟨_, _, _, _, rfl, rfl, e1, e2, ?_, fun p hp => ?_⟩
        · rw [r1.length, r2.length]
          exact Nat.le_trans hl (by rw [sizeLine_eq]; decide)
        · exact k _ _ (s1.trans (s2.trans (upd_same_of hp))) (.lst upd_same (sdl (upd_same_of hp) (DaL.append r1 r2)))
/-- t * k, k a number -/
theorem tv_repT {K : PySem.W.Frag} {t : TE} {n : Int} {ds : List PyData} (h : Tv H0 σ t (.tuple ds)) (h0 : ds ≠ []) (h1 : 2 ≤ n) (h2 : n ≤ 1000) (hl : ds.length ≤ 1000) : Tv H0 σ (tOp (rRepT K) t (tC (.int n))) (.tuple (List.replicate n.toNat ds).flatten) := fun H Q s k =>
  h H _ s fun v H1 s1 h1' => by
    cases h1' with
    | tup e1 r1 =>
      refine ⟨_, n, _, rfl, rfl, SqT.of e1, ?_, h1, h2, ?_, fun p hp => ?_⟩
      · intro z
        subst z
        cases r1
        exact h0 rfl
      · rw [r1.length]
        exact hl
      · exact k _ _ (s1.trans (upd_same_of hp)) (.tup upd_same (sdl (upd_same_of hp) (DaL.rep r1 _)))
/-- t * k, k a number, t a list -/
theorem tv_rep {t : TE} {n : Int} {ds : List PyData} (h : Tv H0 σ t (.list ds)) (h1 : 0 ≤ n) (h2 : n ≤ 1000) (hl : ds.length * n.toNat ≤ 5000) : Tv H0 σ (tOp rRep t (tC (.int n))) (.list (List.replicate n.toNat ds).flatten) := fun H Q s k =>
  h H _ s fun v H1 s1 h1' => by
    cases h1' with
    | lst e1 r1 =>
      refine ⟨_, n, _, rfl, rfl, e1, by omega, by omega, ?_, fun p hp => ?_⟩
      · rw [r1.length]
        exact Nat.le_trans hl (by rw [sizeLine_eq]; decide)
      · exact k _ _ (s1.trans (upd_same_of hp)) (.lst upd_same (sdl (upd_same_of hp) (DaL.rep r1 _)))
/-- an operation on two ints -/
theorem tv_op0 {g : Int → Int → Int} {t u : TE} {i j : Int} (h : Tv H0 σ t (.int i)) (h' : Tv H0 σ u (.int j)) : Tv H0 σ (tOp (rI0 fun i j => .int (g i j)) t u) (.int (g i j)) := fun H Q s k =>
  h H _ s fun v H1 s1 h1 => h' H1 _ (s.trans s1) fun z H2 s2 h2 => by
    cases h1
    cases h2
    exact ⟨i, j, rfl, rfl, k _ _ (s1.trans s2) (.int _)⟩
theorem tv_pow {t u : TE} {i j : Int} (h : Tv H0 σ t (.int i)) (h' : Tv H0 σ u (.int j)) (c : CPow i j) : Tv H0 σ (tOp (rI CPow fun i j => .int (i ^ j.toNat)) t u) (.int (i ^ j.toNat)) := fun H Q s k =>
  h H _ s fun v H1 s1 h1 => h' H1 _ (s.trans s1) fun z H2 s2 h2 => by
    cases h1
    cases h2
    exact ⟨i, j, rfl, rfl, c, k _ _ (s1.trans s2) (.int _)⟩
theorem tv_neg (i : Int) : Tv H0 σ (tUn (rU fun i => .int (-i)) (tC (.int i))) (.int (-i)) := fun H Q s k => ⟨i, rfl, k _ H (Same.refl H) (.int _)⟩
theorem tv_set {t : TE} {d : PyData} {i : Nat} {u : TS} {D : Ends} {H : Hp} (h : Tv H0 σ t d) (s : Same H0 H) (k : ∀ v H', Same H H' → Da H' v d → u D (σ.set i (some v)) H') : tSeq (tAsg t (gName i)) u D σ H :=
  h H _ s fun v H' s' d' => k v H' s' d'
end
end Gd
set_option Elab.async false
set_option linter.all false
set_option maxRecDepth 100000
set_option maxHeartbeats 4000000
namespace K1
open PySem L2 Gd PySem.ExG
set_option exponentiation.threshold 10000
def big30 : Int := 10 ^ (30 : Int).toNat
def goodsD : List PyData := [.tuple [.int 1, .tuple [.int 1]], .tuple [.int 3, .tuple (List.replicate (8 : Int).toNat [.int big30]).flatten], .tuple [.int 2, .tuple [.int 1, .int big30, .int 1]], .tuple [.int 3, .tuple (List.replicate (8 : Int).toNat [.int 1]).flatten]]
def badsA : List PyData := [.tuple [.int 0, .tuple [.int 1]], .tuple [.int 4, .tuple [.int 1]], .tuple [.bool true, .tuple [.int 1]], .tuple [.int 1, .tuple []], .tuple [.int 1, .tuple (List.replicate (9 : Int).toNat [.int 1]).flatten], .tuple [.int 1, .tuple [.int 0]], .tuple [.int 1, .tuple [.int 2, .int (big30 + 1)]], .tuple [.int 1, .tuple [.int 2, .bool true]]]
def badsB : List PyData := [.tuple [.int 1, .list [.int 1, .int 2]], .list [.int 1, .tuple [.int 1]], .tuple [.int 1], .tuple [.int 1, .tuple [.int 1], .int 1], .tuple [], .none, .str "1 1", .tuple [.int 1, .int 1], .tuple [.int 0, .tuple []], .tuple [.int 4, .tuple [.int 0]], .tuple [.int 1, .tuple [.int (-1), .int 0]]]
def plcs : List (List Int) := [[0], [0], [0], [1], [1], [1, 0], [1, 1], [1, 1], [1], [], [], [], [], [], [], [1], [0], [0], [1, 0]]
theorem goods_plc : goodsD.all (fun d => plc d == none && d.showable && decide (d.depth ≤ 20) && decide (d.shown.length ≤ 10000)) = true := by decide +kernel
theorem bads_plc : (badsA ++ badsB).map plc = plcs.map some := by decide +kernel
theorem bads_len : (badsA ++ badsB).length = 19 := by decide +kernel

/-- only tuples, ints and texts -/
inductive Flat : PyData → Prop
  | int (i : Int) : Flat (.int i)
  | str (x : Str) : Flat (.str x)
  | tup (ds : List PyData) (h : ∀ d ∈ ds, Flat d) : Flat (.tuple ds)
mutual
theorem da_off {H : Hp} {D : Addr} {ys : List V} (e : H D = some (.lst ys)) : ∀ {v : V} {d : PyData}, Da H v d → Flat d → Da (off H D) v d
  | _, _, .int i, _ => .int i
  | _, _, .str x, _ => .str x
  | _, _, .tup h r, f => by
    cases f with
    | tup ds q => exact .tup (by rw [off_ne (ne_of h e (by intro z; cases z))]; exact h) (dal_off e r q)
  | _, _, .non, f => by cases f
  | _, _, .bl b, f => by cases f
  | _, _, .lst h r, f => by cases f
  | _, _, .dic h r, f => by cases f
theorem dal_off {H : Hp} {D : Addr} {ys : List V} (e : H D = some (.lst ys)) : ∀ {vs : List V} {ds : List PyData}, DaL H vs ds → (∀ d ∈ ds, Flat d) → DaL (off H D) vs ds
  | _, _, .nil, _ => .nil
  | _, _, .cons h r, q => .cons (da_off e h (q _ List.mem_cons_self)) (dal_off e r fun d hd => q d (List.mem_cons_of_mem _ hd))
end
mutual
theorem da_dp {K : PySem.W.Frag} {H : Hp} : ∀ {v : V} {d : PyData}, Da H v d → Flat d → Dp K H v d
  | _, _, .int i, _ => .int i
  | _, _, .str x, _ => .str x
  | _, _, .tup h r, f => by
    cases f with
    | tup ds q => exact .tup (SqT.of h) (dal_dp r q)
  | _, _, .non, f => by cases f
  | _, _, .bl b, f => by cases f
  | _, _, .lst h r, f => by cases f
  | _, _, .dic h r, f => by cases f
theorem dal_dp {K : PySem.W.Frag} {H : Hp} : ∀ {vs : List V} {ds : List PyData}, DaL H vs ds → (∀ d ∈ ds, Flat d) → DpAll K H vs ds
  | _, _, .nil, _ => .nil
  | _, _, .cons h r, q => .cons (da_dp h (q _ List.mem_cons_self)) (dal_dp r fun d hd => q d (List.mem_cons_of_mem _ hd))
end
theorem flat_pl (p : List Int) : Flat (plD p) := .tup _ fun d hd => by
  obtain ⟨i, _, rfl⟩ := List.mem_map.mp hd
  exact .int i
def badD (p : List Int) : PyData := .tuple [.str "bad", plD p]
theorem flat_bad (p : List Int) : Flat (badD p) := .tup _ fun d hd => by
  simp only [List.mem_cons, List.not_mem_nil, or_false] at hd
  rcases hd with rfl | rfl
  · exact .str _
  · exact flat_pl p
theorem off_grow {H : Hp} {D : Addr} {o : HO} : off (upd H D o) D = off H D := by
  funext b
  unfold off
  by_cases h : b = D
  · rw [if_pos h, if_pos h]
  · rw [if_neg h, if_neg h, upd_ne h]
theorem off_mono {H H' : Hp} {D : Addr} (s : Same H H') : ∀ b o, off H D b = some o → off H' D b = some o := fun b o e => by
  unfold off at e ⊢
  by_cases h : b = D
  · rw [if_pos h] at e
    cases e
  · rw [if_neg h] at e ⊢
    exact s b o e
theorem dal_snoc {H : Hp} {vs : List V} {ds : List PyData} {v : V} {d : PyData} (h : DaL H vs ds) (g : Da H v d) : DaL H (vs ++ [v]) (ds ++ [d]) := DaL.append h (.cons g .nil)
theorem take_snoc {α : Type} {l : List α} {i : Nat} {x : α} (h : l[i]? = some x) : l.take (i + 1) = l.take i ++ [x] := by
  obtain ⟨hi, e⟩ := List.getElem?_eq_some_iff.mp h
  rw [List.take_succ, h]
  rfl
theorem lst_inv {H : Hp} {v : V} {ds : List PyData} (h : Da H v (.list ds)) : ∃ a xs, v = .ref a ∧ H a = some (.lst xs) ∧ DaL H xs ds := by
  cases h with
  | lst e r => exact ⟨_, _, rfl, e, r⟩
theorem good_at {i : Nat} {d : PyData} (h : goodsD[i]? = some d) : plc d = none ∧ Sm 10000 20 d := by
  have q := List.all_eq_true.mp goods_plc d (List.mem_of_getElem? h)
  simp only [Bool.and_eq_true, decide_eq_true_eq] at q
  obtain ⟨⟨⟨q1, q2⟩, q3⟩, q4⟩ := q
  exact ⟨by simpa using q1, q2, q3, q4⟩
theorem bad_at {i : Nat} {d : PyData} (h : (badsA ++ badsB)[i]? = some d) : ∃ p, plcs[i]? = some p ∧ saidD d = badD p := by
  have q := congrArg (fun l => l[i]?) bads_plc
  simp only [List.getElem?_map, h, Option.map_some] at q
  cases e : plcs[i]? with
  | none =>
    rw [e] at q
    cases q
  | some p =>
    rw [e] at q
    have q' : plc d = some p := Option.some.inj q
    refine ⟨p, rfl, ?_⟩
    unfold saidD
    rw [q']
    rfl
def bdl : List PyData := plcs.map badD
theorem bdl_eqv : PyData.eqv (.list bdl) (.list bdl) = true := by decide +kernel
theorem bdl_shaped : SeqAt.shaped (.list bdl) = true := by decide +kernel
theorem flat_bdl : ∀ d ∈ bdl, Flat d := fun d hd => by
  obtain ⟨p, _, rfl⟩ := List.mem_map.mp hd
  exact flat_bad p
theorem bdl_at {i : Nat} {p : List Int} (h : plcs[i]? = some p) : bdl[i]? = some (badD p) := by
  unfold bdl
  rw [List.getElem?_map, h]
  rfl
/-- _law_hand_right(): True -/
def spHand : Sp := fun vs H Q _ => vs = [] ∧ ∀ (H' : Hp), Same H H' → Q (.bl true) H'
structure TxH (pr : Program) (K : PySem.W.Frag) (mg : Str → Option Value) (C fI fB fG fN fS : Addr) (fdB fdG fdN fdS : FuncData) : Prop where
  ts : TxS pr K mg C fI fB fG fN fdB fdG fdN
  said : At K mg "_law_said" sSaid ["thing"] fS fdS
  repr : mg "repr" = none
section
variable {P : Program} {w : World} {K : PySem.W.Frag} {mg : Str → Option Value} {base : Heap} {C fI fB fG fN fS : Addr} {fdB fdG fdN fdS : FuncData}
theorem scHand : FnScope ["most", "good", "bad", "places", "thing", "place"] [] (defScope sHand) := ⟨rfl, rfl, rfl, by decide +kernel, rfl, by decide +kernel, by decide +kernel⟩
theorem ok_hand {f : Addr} {fd : FuncData} (F : Fun K "_law_hand_right" "_law_hand_right" sHand f fd) (T : TxH P K mg C fI fB fG fN fS fdB fdG fdN fdS) (hb : ∃ o, base.get? sysModules = some o) : FnG P w K mg base CX0 7 f fd [] spHand := by
  have GS : FnOk P w K mg base CX0 6 fS fdS ["thing"] spSaid := ok_said T.said.F T.ts
  refine okG F scHand (fun vs H Q E h => ?_) (fun cdv A outer s H vs Q E gA hr h => ?_)
  · obtain ⟨rfl, _⟩ := h
    rfl
  · obtain ⟨rfl, kq⟩ := h
    have nd := scHand.nd
    refine ⟨_, pss_cons (ps_set (i := 0) nd rfl (Or.inl rfl) (pe_op op_pow pe_int pe_int))
      (pss_cons (ps_set (i := 1) nd rfl (Or.inl rfl) (pe_lst (pa_cons (pe_tup (pa_cons pe_int (pa_cons (pe_tup (pa_cons pe_int pa_nil)) pa_nil))) (pa_cons (pe_tup (pa_cons pe_int (pa_cons (pe_op op_repT (pe_tup (pa_cons (pv 0) pa_nil)) pe_int) pa_nil))) (pa_cons (pe_tup (pa_cons pe_int (pa_cons (pe_tup (pa_cons pe_int (pa_cons (pv 0) (pa_cons pe_int pa_nil)))) pa_nil))) (pa_cons (pe_tup (pa_cons pe_int (pa_cons (pe_op op_repT (pe_tup (pa_cons pe_int pa_nil)) pe_int) pa_nil))) pa_nil))))))
      (pss_cons (ps_set (i := 2) nd rfl (Or.inl rfl) (pe_lst (pa_cons (pe_tup (pa_cons pe_int (pa_cons (pe_tup (pa_cons pe_int pa_nil)) pa_nil))) (pa_cons (pe_tup (pa_cons pe_int (pa_cons (pe_tup (pa_cons pe_int pa_nil)) pa_nil))) (pa_cons (pe_tup (pa_cons pe_bl (pa_cons (pe_tup (pa_cons pe_int pa_nil)) pa_nil))) (pa_cons (pe_tup (pa_cons pe_int (pa_cons (pe_tup pa_nil) pa_nil))) (pa_cons (pe_tup (pa_cons pe_int (pa_cons (pe_op op_repT (pe_tup (pa_cons pe_int pa_nil)) pe_int) pa_nil))) (pa_cons (pe_tup (pa_cons pe_int (pa_cons (pe_tup (pa_cons pe_int pa_nil)) pa_nil))) (pa_cons (pe_tup (pa_cons pe_int (pa_cons (pe_tup (pa_cons pe_int (pa_cons (pe_op op_add (pv 0) pe_int) pa_nil))) pa_nil))) (pa_cons (pe_tup (pa_cons pe_int (pa_cons (pe_tup (pa_cons pe_int (pa_cons pe_bl pa_nil))) pa_nil))) pa_nil))))))))))
      (pss_cons (ps_set (i := 2) nd rfl (Or.inl rfl) (pe_op op_cat (pv 2) (pe_lst (pa_cons (pe_tup (pa_cons pe_int (pa_cons (pe_lst (pa_cons pe_int (pa_cons pe_int pa_nil))) pa_nil))) (pa_cons (pe_lst (pa_cons pe_int (pa_cons (pe_tup (pa_cons pe_int pa_nil)) pa_nil))) (pa_cons (pe_tup (pa_cons pe_int pa_nil)) (pa_cons (pe_tup (pa_cons pe_int (pa_cons (pe_tup (pa_cons pe_int pa_nil)) (pa_cons pe_int pa_nil)))) (pa_cons (pe_tup pa_nil) (pa_cons pe_non (pa_cons pe_str (pa_cons (pe_tup (pa_cons pe_int (pa_cons pe_int pa_nil))) (pa_cons (pe_tup (pa_cons pe_int (pa_cons (pe_tup pa_nil) pa_nil))) (pa_cons (pe_tup (pa_cons pe_int (pa_cons (pe_tup (pa_cons pe_int pa_nil)) pa_nil))) (pa_cons (pe_tup (pa_cons pe_int (pa_cons (pe_tup (pa_cons (pe_un un_neg pe_int) (pa_cons pe_int pa_nil))) pa_nil))) pa_nil))))))))))))))
      (pss_cons (ps_set (i := 3) nd rfl (Or.inl rfl) (pe_op op_cat (pe_op op_cat (pe_lst (pa_cons (pe_tup (pa_cons pe_int pa_nil)) (pa_cons (pe_tup (pa_cons pe_int pa_nil)) (pa_cons (pe_tup (pa_cons pe_int pa_nil)) (pa_cons (pe_tup (pa_cons pe_int pa_nil)) (pa_cons (pe_tup (pa_cons pe_int pa_nil)) (pa_cons (pe_tup (pa_cons pe_int (pa_cons pe_int pa_nil))) (pa_cons (pe_tup (pa_cons pe_int (pa_cons pe_int pa_nil))) (pa_cons (pe_tup (pa_cons pe_int (pa_cons pe_int pa_nil))) (pa_cons (pe_tup (pa_cons pe_int pa_nil)) pa_nil)))))))))) (pe_op op_rep (pe_lst (pa_cons (pe_tup pa_nil) pa_nil)) pe_int)) (pe_lst (pa_cons (pe_tup (pa_cons pe_int pa_nil)) (pa_cons (pe_tup (pa_cons pe_int pa_nil)) (pa_cons (pe_tup (pa_cons pe_int pa_nil)) (pa_cons (pe_tup (pa_cons pe_int (pa_cons pe_int pa_nil))) pa_nil)))))))
      (pss_cons (ps_for PassesOwn.never rfl (pi_list (pv 1)) (pg_name (i := 4) nd rfl (Or.inl rfl))
        (pss_one (ps_if (pt_cmpR op_ne (pe_callB (call_repr gA hr.units hb) (by rfl) T.repr (by decide +kernel) (pa_cons (pe_call GS hr rfl T.said.g T.said.F.kp T.said.b .nil pass0 (pa_cons (pv 4) pa_nil)) pa_nil))
            (pe_callB (call_repr gA hr.units hb) (by rfl) T.repr (by decide +kernel) (pa_cons (pe_lst (pa_cons (pv 4) pa_nil)) pa_nil)) (nomark _)) (pss_one (ps_ret pe_bl)) pss_nil)))
      (pss_one (ps_ret (pe_cmpR (op_eqD hr.units) (pe_lc (own := [("thing", 4)]) (g := gName 4) (tt := tYes) (by rfl) nd (pi_list (pv 2))
          (blkOk_by (N := ["most", "good", "bad", "places", "thing", "place"]) (sc := defScope sHand) (by decide +kernel))
          (fun _ _ _ _ _ => by exact (pg_name (i := 4) nd rfl (Or.inl rfl))) (fun _ _ _ _ _ => pts_nil)
          (fun _ _ _ _ _ => by exact (pe_call GS hr rfl T.said.g T.said.F.kp T.said.b .nil pass0 (pa_cons (pv 4) pa_nil))))
        (pe_lc (own := [("place", 5)]) (g := gName 5) (tt := tYes) (by rfl) nd (pi_list (pv 3))
          (blkOk_by (N := ["most", "good", "bad", "places", "thing", "place"]) (sc := defScope sHand) (by decide +kernel))
          (fun _ _ _ _ _ => by exact (pg_name (i := 5) nd rfl (Or.inl rfl))) (fun _ _ _ _ _ => pts_nil)
          (fun _ _ _ _ _ => by exact (pe_tup (pa_cons pe_str (pa_cons (pv 5) pa_nil))))) (nomark _))))))))), ?_⟩
    refine tv_set (H0 := H) (tv_pow (tv_int _) (tv_int _) ⟨by decide, by decide, by decide⟩) (Same.refl H) fun v0 H0 s0 d0 => ?_
    cases d0
    have h0 : ∀ G : Hp, Da G (.int big30) (.int big30) := fun G => .int _
    refine tv_set (d := .list (goodsD)) (H0 := H0) (tv_lst (ta_cons (tv_tup (ta_cons (tv_int _) (ta_cons (tv_tup (ta_cons (tv_int _) ta_nil) (by decide)) ta_nil)) (by decide)) (ta_cons (tv_tup (ta_cons (tv_int _) (ta_cons (tv_repT (tv_tup (ta_cons (tv_var rfl (h0 _)) ta_nil) (by decide)) (by simp) (by decide) (by decide) (by decide)) ta_nil)) (by decide)) (ta_cons (tv_tup (ta_cons (tv_int _) (ta_cons (tv_tup (ta_cons (tv_int _) (ta_cons (tv_var rfl (h0 _)) (ta_cons (tv_int _) ta_nil))) (by decide)) ta_nil)) (by decide)) (ta_cons (tv_tup (ta_cons (tv_int _) (ta_cons (tv_repT (tv_tup (ta_cons (tv_int _) ta_nil) (by decide)) (by simp) (by decide) (by decide) (by decide)) ta_nil)) (by decide)) ta_nil)))) (by decide)) (Same.refl _) fun v1 H1 s1 d1 => ?_
    refine tv_set (d := .list (badsA)) (H0 := H1) (tv_lst (ta_cons (tv_tup (ta_cons (tv_int _) (ta_cons (tv_tup (ta_cons (tv_int _) ta_nil) (by decide)) ta_nil)) (by decide)) (ta_cons (tv_tup (ta_cons (tv_int _) (ta_cons (tv_tup (ta_cons (tv_int _) ta_nil) (by decide)) ta_nil)) (by decide)) (ta_cons (tv_tup (ta_cons (tv_bl _) (ta_cons (tv_tup (ta_cons (tv_int _) ta_nil) (by decide)) ta_nil)) (by decide)) (ta_cons (tv_tup (ta_cons (tv_int _) (ta_cons (tv_tup ta_nil (by decide)) ta_nil)) (by decide)) (ta_cons (tv_tup (ta_cons (tv_int _) (ta_cons (tv_repT (tv_tup (ta_cons (tv_int _) ta_nil) (by decide)) (by simp) (by decide) (by decide) (by decide)) ta_nil)) (by decide)) (ta_cons (tv_tup (ta_cons (tv_int _) (ta_cons (tv_tup (ta_cons (tv_int _) ta_nil) (by decide)) ta_nil)) (by decide)) (ta_cons (tv_tup (ta_cons (tv_int _) (ta_cons (tv_tup (ta_cons (tv_int _) (ta_cons (tv_op0 (g := fun i j => i + j) (tv_var rfl (h0 _)) (tv_int _)) ta_nil)) (by decide)) ta_nil)) (by decide)) (ta_cons (tv_tup (ta_cons (tv_int _) (ta_cons (tv_tup (ta_cons (tv_int _) (ta_cons (tv_bl _) ta_nil)) (by decide)) ta_nil)) (by decide)) ta_nil)))))))) (by decide)) (Same.refl _) fun v2 H2 s2 d2 => ?_
    refine tv_set (d := .list (badsA ++ badsB)) (H0 := H2) (tv_cat (tv_var rfl d2) (tv_lst (ta_cons (tv_tup (ta_cons (tv_int _) (ta_cons (tv_lst (ta_cons (tv_int _) (ta_cons (tv_int _) ta_nil)) (by decide)) ta_nil)) (by decide)) (ta_cons (tv_lst (ta_cons (tv_int _) (ta_cons (tv_tup (ta_cons (tv_int _) ta_nil) (by decide)) ta_nil)) (by decide)) (ta_cons (tv_tup (ta_cons (tv_int _) ta_nil) (by decide)) (ta_cons (tv_tup (ta_cons (tv_int _) (ta_cons (tv_tup (ta_cons (tv_int _) ta_nil) (by decide)) (ta_cons (tv_int _) ta_nil))) (by decide)) (ta_cons (tv_tup ta_nil (by decide)) (ta_cons tv_non (ta_cons (tv_str _) (ta_cons (tv_tup (ta_cons (tv_int _) (ta_cons (tv_int _) ta_nil)) (by decide)) (ta_cons (tv_tup (ta_cons (tv_int _) (ta_cons (tv_tup ta_nil (by decide)) ta_nil)) (by decide)) (ta_cons (tv_tup (ta_cons (tv_int _) (ta_cons (tv_tup (ta_cons (tv_int _) ta_nil) (by decide)) ta_nil)) (by decide)) (ta_cons (tv_tup (ta_cons (tv_int _) (ta_cons (tv_tup (ta_cons (tv_neg _) (ta_cons (tv_int _) ta_nil)) (by decide)) ta_nil)) (by decide)) ta_nil))))))))))) (by decide)) (by decide)) (Same.refl _) fun v3 H3 s3 d3 => ?_
    refine tv_set (d := .list (plcs.map plD)) (H0 := H3) (tv_cat (tv_cat (tv_lst (ta_cons (tv_tup (ta_cons (tv_int _) ta_nil) (by decide)) (ta_cons (tv_tup (ta_cons (tv_int _) ta_nil) (by decide)) (ta_cons (tv_tup (ta_cons (tv_int _) ta_nil) (by decide)) (ta_cons (tv_tup (ta_cons (tv_int _) ta_nil) (by decide)) (ta_cons (tv_tup (ta_cons (tv_int _) ta_nil) (by decide)) (ta_cons (tv_tup (ta_cons (tv_int _) (ta_cons (tv_int _) ta_nil)) (by decide)) (ta_cons (tv_tup (ta_cons (tv_int _) (ta_cons (tv_int _) ta_nil)) (by decide)) (ta_cons (tv_tup (ta_cons (tv_int _) (ta_cons (tv_int _) ta_nil)) (by decide)) (ta_cons (tv_tup (ta_cons (tv_int _) ta_nil) (by decide)) ta_nil))))))))) (by decide)) (tv_rep (tv_lst (ta_cons (tv_tup ta_nil (by decide)) ta_nil) (by decide)) (by decide) (by decide) (by decide)) (by decide)) (tv_lst (ta_cons (tv_tup (ta_cons (tv_int _) ta_nil) (by decide)) (ta_cons (tv_tup (ta_cons (tv_int _) ta_nil) (by decide)) (ta_cons (tv_tup (ta_cons (tv_int _) ta_nil) (by decide)) (ta_cons (tv_tup (ta_cons (tv_int _) (ta_cons (tv_int _) ta_nil)) (by decide)) ta_nil)))) (by decide)) (by decide)) (Same.refl _) fun v4 H4 s4 d4 => ?_
    obtain ⟨a1, gs, rfl, e1, r1⟩ := lst_inv d1
    obtain ⟨a3, bs, rfl, e3, r3⟩ := lst_inv d3
    obtain ⟨a4, ps, rfl, e4, r4⟩ := lst_inv d4
    have s14 := s2.trans (s3.trans s4)
    have z0 : ∀ k : Nat, k ≤ 100 → k ≤ sizeLine := fun k h => Nat.le_trans h (by rw [sizeLine_eq]; decide)
    refine ⟨_, rfl, a1, rfl, ⟨_, SqL.of (s14 _ _ e1)⟩, for_list (K := K) (a := a1) (xs := gs)
      (fun i σ H' => ∃ c4 : Option V, σ = [some (.int (10 ^ (30 : Int).toNat)), some (.ref a1), some (.ref a3), some (.ref a4), c4, none] ∧ Same H4 H') ⟨none, rfl, Same.refl _⟩ (fun i σ H' _ ⟨_, _, s5⟩ => SqL.of (s5 _ _ (s14 _ _ e1))) ?_ ?_⟩
    · rintro i y σ H5 hy ⟨c4, rfl, s5⟩
      obtain ⟨d, hd, dy⟩ := r1.get hy
      obtain ⟨pn, sm⟩ := good_at hd
      have es : saidD d = .list [d] := by
        unfold saidD
        rw [pn]
        rfl
      have dy5 := s5.da (s14.da dy)
      refine ⟨_, rfl, y, d, rfl, dy5, fun r H6 s6 hr6 => ?_⟩
      rw [es] at hr6
      have sml : Sm 16000000 30 (.list [d]) := (sm_lst (n := 10000) (k := 20) (ds := [d]) ⟨fun x hx => by
        rw [List.mem_singleton.mp hx]
        exact sm⟩).up (by simp only [List.length_cons, List.length_nil]; decide) (by decide)
      refine ⟨_, _, rfl, hr6, sml, ?_⟩
      refine ⟨_, rfl, z0 1 (by decide), fun q hq => ?_⟩
      refine ⟨_, _, rfl, .lst upd_same (.cons ((Same.new hq).da (s6.da dy5)) .nil), sml, rfl, _, rfl, ?_⟩
      refine iteNS rfl ?_
      exact ⟨_, rfl, s5.trans (s6.trans (Same.new hq))⟩
    · rintro σ H5 ⟨c4, rfl, s5⟩
      have e3' := s5 _ _ (s4 _ _ e3)
      have e4' := s5 _ _ e4
      refine ⟨_, rfl, a3, rfl, ⟨_, SqL.of e3'⟩, fun D hD => ?_⟩
      refine lc_list (K := K) (a := a3) (xs := bs) (fun i H' => Same H5 H' ∧ ∃ acc, H' D = some (.lst acc) ∧ DaL (off H' D) acc (bdl.take i)) ⟨Same.new hD, [], upd_same, .nil⟩ (fun i H' _ ⟨s6, _⟩ => SqL.of (s6 _ _ e3')) ?_ ?_
      · rintro i x H6 hx ⟨s6, acc, ha, da⟩
        obtain ⟨d, hd, dx⟩ := r3.get hx
        obtain ⟨p, hp, es⟩ := bad_at hd
        refine ⟨rfl, ?_⟩
        dsimp only [tYes]
        refine iteT ?_
        refine ⟨_, rfl, x, d, rfl, s6.da (s5.da (s4.da dx)), fun r H7 s7 hr7 => ?_⟩
        rw [es] at hr7
        have ha7 := s7 _ _ ha
        refine ⟨acc, ha7, ?_, fun b o q => ?_, acc ++ [r], upd_same, ?_⟩
        · rw [da.length, List.length_take, sizeLine_eq]
          have : bdl.length = 19 := by decide +kernel
          omega
        · rw [upd_ne (ne_of_none q hD)]
          exact s7 _ _ (s6 _ _ q)
        · rw [off_grow, take_snoc (bdl_at hp)]
          exact dal_snoc (da.mono (off_mono s7)) (da_off ha7 hr7 (flat_bad p))
      · rintro H6 ⟨s6, acc, ha, da⟩
        have lb : bs.length = 19 := by rw [r3.length]; exact bads_len
        have lp : ps.length = 19 := by rw [r4.length]; decide +kernel
        have ft : bdl.take 19 = bdl := List.take_of_length_le (by decide +kernel)
        rw [lb, ft] at da
        refine ⟨_, rfl, a4, rfl, ⟨_, SqL.of (s6 _ _ e4')⟩, fun D2 hD2 => ?_⟩
        refine lc_list (K := K) (a := a4) (xs := ps) (fun i H' => Same H6 H' ∧ ∃ acc2, H' D2 = some (.lst acc2) ∧ DaL (off H' D2) acc2 (bdl.take i)) ⟨Same.new hD2, [], upd_same, .nil⟩ (fun i H' _ ⟨s7, _⟩ => SqL.of (s7 _ _ (s6 _ _ e4'))) ?_ ?_
        · rintro i x H7 hx ⟨s7, acc2, ha2, da2⟩
          obtain ⟨d, hd, dx⟩ := r4.get hx
          obtain ⟨p, hp, rfl⟩ : ∃ p, plcs[i]? = some p ∧ plD p = d := by
            rw [List.getElem?_map] at hd
            cases e : plcs[i]? with
            | none =>
              rw [e] at hd
              cases hd
            | some p =>
              rw [e] at hd
              exact ⟨p, rfl, Option.some.inj hd⟩
          refine ⟨rfl, ?_⟩
          dsimp only [tYes]
          refine iteT ?_
          refine ⟨_, rfl, z0 2 (by decide), fun q hq => ?_⟩
          have sq := Same.new (o := .tup [.str "bad", x]) hq
          have ha3 := sq _ _ ha2
          have dq : Da (upd H7 q (.tup [.str "bad", x])) (.ref q) (badD p) := .tup upd_same (.cons (.str _) (.cons (sq.da (s7.da (s6.da (s5.da dx)))) .nil))
          refine ⟨acc2, ha3, ?_, fun b o z => ?_, acc2 ++ [.ref q], upd_same, ?_⟩
          · rw [da2.length, List.length_take, sizeLine_eq]
            have : bdl.length = 19 := by decide +kernel
            omega
          · rw [upd_ne (ne_of_none z hD2)]
            exact sq _ _ (s7 _ _ z)
          · rw [off_grow, take_snoc (bdl_at hp)]
            exact dal_snoc (da2.mono (off_mono sq)) (da_off ha3 dq (flat_bad p))
        · rintro H7 ⟨s7, acc2, ha2, da2⟩
          rw [lp, ft] at da2
          refine ⟨.list bdl, .list bdl, .lst (SqL.of (s7 _ _ ha)) (dal_dp (da.mono fun b o q => s7 _ _ (off_sub b o q)) flat_bdl), .lst (SqL.of ha2) (dal_dp (da2.mono off_sub) flat_bdl), bdl_shaped, bdl_shaped, ?_⟩
          rw [bdl_eqv]
          exact kq H7 (s0.trans (s1.trans (s14.trans (s5.trans (s6.trans s7)))))
end
end K1
set_option Elab.async false
set_option linter.all false
set_option maxRecDepth 100000
set_option maxHeartbeats 4000000
namespace K1
open PySem L2 Gd PySem.ExG
set_option exponentiation.threshold 10000
theorem MOk.same {H H' : Hp} {m c : Addr} {n : Nat} (M : MOk H m c n) (s : Same H H') : MOk H' m c n := by
  obtain ⟨l, sd, sp, cs, h1, h2, r⟩ := M.ex
  exact ⟨l, sd, sp, cs, s _ _ h1, s _ _ h2, r⟩
theorem Frm.thg {H : Hp} {m : Addr} {v : V} (f : Frm H m v) : Thg 10000000 20 H m v := by
  obtain ⟨p, q, hands, gs, rfl, pm, qm, ep, eq, l1, l8, hb, gb⟩ := f.ex
  have ts : ThL 640 3 H m (gs.map V.int) := ⟨fun v hv => by
    obtain ⟨g, hg, rfl⟩ := List.mem_map.mp hv
    exact (th_int3 (gb g hg)).up (by decide) (by decide)⟩
  have tq : Thg 10000 4 H m (.ref q) := (th_tup qm eq ts).up (by rw [List.length_map]; omega) (by decide)
  exact (th_tup pm ep (ThL.cons ((th_int3 hb).up (by decide) (by decide)) (ThL.cons tq ThL.nil))).up (by simp only [List.length_cons, List.length_nil]; omega) (by decide)
theorem Frm.same {H H' : Hp} {m : Addr} {v : V} (f : Frm H m v) (s : Same H H') : Frm H' m v := by
  obtain ⟨p, q, hands, gs, e, pm, qm, ep, eq, r⟩ := f.ex
  exact ⟨p, q, hands, gs, e, pm, qm, s _ _ ep, s _ _ eq, r⟩
theorem grow_of {m : Addr} {H H' : Hp} (s : Same H H') : Grow m H H' := fun b o _ e => s b o e
/-- the law's: True -/
def spLaw (K : PySem.W.Frag) : Sp := fun vs H Q _ => ∃ (a : Addr) (ns : List Int), vs = [.ref a] ∧ SqL K H a (ns.map V.int) ∧ ns.length ≤ 63 ∧ ∀ H', Q (.bl true) H'
structure TxLaw (pr : Program) (K : PySem.W.Frag) (mg : Str → Option Value) (C fI fB fG fN fS fL fW fD fO fA fBe fBg fDr fOd fR fH : Addr) (fdB fdG fdN fdS fdL fdW fdD fdO fdA fdBe fdBg fdDr fdOd fdR fdH : FuncData) : Prop where
  tr : TxR pr K mg C fI fB fG fN fL fW fS fdB fdG fdN fdL fdW fdS
  th : TxH pr K mg C fI fB fG fN fS fdB fdG fdN fdS
  tod : TxOd K mg fD fO fA fBe fdD fdO fdA fdBe
  tdr : TxDr K mg fD fO fdD fdO
  begun : At K mg "_law_begun" sBegun ["script", "k"] fBg fdBg
  drawn : At K mg "_law_drawn" sDrawn ["m"] fDr fdDr
  odd : At K mg "_law_odd" sOdd ["m", "frame"] fOd fdOd
  right : At K mg "_law_right" sRight ["thing"] fR fdR
  hand : At K mg "_law_hand_right" sHand [] fH fdH
  min : mg "min" = none
section
variable {P : Program} {w : World} {K : PySem.W.Frag} {mg : Str → Option Value} {base : Heap} {C fI fB fG fN fS fL fW fD fO fA fBe fBg fDr fOd fR fH : Addr} {fdB fdG fdN fdS fdL fdW fdD fdO fdA fdBe fdBg fdDr fdOd fdR fdH : FuncData}
theorem scLaw : FnScope ["script", "k", "m", "turn", "frame"] ["script"] (defScope sLaw) := ⟨rfl, rfl, rfl, by decide +kernel, rfl, by decide +kernel, by decide +kernel⟩
theorem ok_law {f : Addr} {fd : FuncData} (F : Fun K "law" "law" sLaw f fd) (T : TxLaw P K mg C fI fB fG fN fS fL fW fD fO fA fBe fBg fDr fOd fR fH fdB fdG fdN fdS fdL fdW fdD fdO fdA fdBe fdBg fdDr fdOd fdR fdH) (hb : ∃ o, base.get? sysModules = some o) :
    FnG P w K mg base CX0 8 f fd ["script"] (spLaw K) := by
  have GR : FnG P w K mg base CX0 7 fR fdR ["thing"] spRight := ok_right T.right.F T.tr hb
  have GH : FnG P w K mg base CX0 7 fH fdH [] spHand := ok_hand T.hand.F T.th hb
  have GO : FnOk P w K mg base CX0 5 fOd fdOd ["m", "frame"] spOdd := ok_odd T.odd.F T.tod
  have GD : FnOk P w K mg base CX0 3 fDr fdDr ["m"] spDrawn := ok_drawn T.drawn.F T.tdr
  have GB : FnOk P w K mg base CX0 1 fBg fdBg ["script", "k"] (spBegun K) := ok_begun T.begun.F T.tdr.to.td.tx
  refine okG F scLaw (fun vs H Q E h => ?_) (fun cdv A outer s H vs Q E gA hr h => ?_)
  · obtain ⟨a, ns, rfl, _⟩ := h
    rfl
  · obtain ⟨a, ns, rfl, hS, hl, k⟩ := h
    have nd := scLaw.nd
    have hr1 : Room 1 _ := hr.mono (by decide)
    have hr3 : Room 3 _ := hr.mono (by decide)
    have hr5 : Room 5 _ := hr.mono (by decide)
    refine ⟨_, pss_cons (ps_if (pt_not (pt_val (pe_call0G GH gA hr rfl T.hand.g T.hand.F.kp T.hand.b .nil pass0))) (pss_one (ps_ret pe_bl)) pss_nil)
      (pss_cons (ps_for PassesOwn.never rfl (pi_range1 rfl T.tr.range (pa_cons (pe_op op_add pe_int (pe_callB (call_min2 rfl) (by rfl) T.min (by decide +kernel)
          (pa_cons (pe_callB call_len_seq (by rfl) T.tdr.to.td.tx.len PySem.boot_len (pa_cons (pv 0) pa_nil)) (pa_cons pe_int pa_nil)))) pa_nil)) (pg_name (i := 1) nd rfl (Or.inl rfl))
        (pss_cons (ps_set (i := 2) nd rfl (Or.inl rfl) (pe_call GB hr1 rfl T.begun.g T.begun.F.kp T.begun.b .nil pass0 (pa_cons (pv 0) (pa_cons (pv 1) pa_nil))))
        (pss_one (ps_for PassesOwn.never rfl (pi_range1 rfl T.tr.range (pa_cons pe_int pa_nil)) (pg_name (i := 3) nd rfl (Or.inl rfl))
          (pss_cons (ps_set (i := 4) nd rfl (Or.inl rfl) (pe_call GD hr3 rfl T.drawn.g T.drawn.F.kp T.drawn.b .nil pass0 (pa_cons (pv 2) pa_nil)))
          (pss_one (ps_if (PW.pt (pw_or (pt_not (pt_val (pe_callG GR gA hr rfl T.right.g T.right.F.kp T.right.b .nil pass0 (pa_cons (pv 4) pa_nil))))
              (pw_or1 (pt_not (pt_val (pe_callG GR gA hr rfl T.right.g T.right.F.kp T.right.b .nil pass0 (pa_cons (pe_call GO hr5 rfl T.odd.g T.odd.F.kp T.odd.b .nil pass0 (pa_cons (pv 2) (pa_cons (pv 4) pa_nil))) pa_nil)))))))
            (pss_one (ps_ret pe_bl)) pss_nil)))))))
      (pss_one (ps_ret pe_bl))), ?_⟩
    refine ⟨rfl, fun H1 s1 => ⟨_, rfl, iteF ?_⟩⟩
    refine ⟨_, rfl, a, _, rfl, .inl (s1.seq hS), _, _, rfl, _, _, rfl, rfl, ?_⟩
    have lm : (ns.map V.int).length ≤ 63 := by rw [List.length_map]; exact hl
    have hN : ∃ N : Nat, N ≤ 9 ∧ (3 + (if (6 : Int) < ((ns.map V.int).length : Nat) then (6 : Int) else ((ns.map V.int).length : Nat))) = (N : Int) := by
      by_cases c : (6 : Int) < ((ns.map V.int).length : Nat)
      · rw [if_pos c]
        exact ⟨9, by decide, rfl⟩
      · rw [if_neg c]
        exact ⟨3 + (ns.map V.int).length, by omega, by omega⟩
    obtain ⟨N, n9, eN⟩ := hN
    refine ⟨3 + (if (6 : Int) < ((ns.map V.int).length : Nat) then (6 : Int) else ((ns.map V.int).length : Nat)), rfl, by rw [eN]; omega, by rw [eN]; omega,
      for_range (n := (3 + (if (6 : Int) < ((ns.map V.int).length : Nat) then (6 : Int) else ((ns.map V.int).length : Nat))).toNat) (fun i σ H' => ∃ kk m t f : Option V, σ = [some (.ref a), kk, m, t, f] ∧ Same H H') ⟨none, none, none, none, rfl, s1⟩ ?_ ?_⟩
    · rintro i σ H2 hi ⟨kk, m0, t0, f0, rfl, s2⟩
      rw [eN, Int.toNat_natCast] at hi
      refine ⟨_, rfl, _, rfl, a, ns, _, rfl, s2.seq hS, hl, by omega, by omega, fun m c H3 hm M s3 => ?_⟩
      have sm : Same H H3 := s2.trans s3
      have hm0 : H m = none := s2.free hm
      refine ⟨12, rfl, by decide, by decide, for_range (n := 12) (fun j σ H' => ∃ t f : Option V, σ = [some (.ref a), some (.int (0 + (i : Nat))), some (.ref m), t, f] ∧ Grow m H3 H' ∧ MOk H' m c (j * 21)) ⟨t0, f0, rfl, Grow.refl _ _, M⟩ ?_ ?_⟩
      · rintro j σ H4 hj ⟨t1, f1, rfl, g4, M4⟩
        refine ⟨_, rfl, m, c, j * 21, rfl, M4, by omega, fun v H5 Fr M5 g5 => ?_⟩
        obtain ⟨d, hd, smd⟩ := Fr.thg.ex
        refine ⟨_, rfl, v, d, rfl, hd.mono off_sub, smd, fun H6 s6 => ⟨_, rfl, iteF ?_⟩⟩
        refine ⟨_, rfl, _, rfl, m, c, v, j * 21 + 11, rfl, M5.same s6, by omega, Fr.same s6, fun r H7 tr M7 g7 => ?_⟩
        obtain ⟨d2, hd2, smd2⟩ := tr.ex
        refine ⟨r, d2, rfl, hd2.mono off_sub, smd2, fun H8 s8 => ⟨_, rfl, iteF ?_⟩⟩
        refine ⟨_, _, rfl, g4.trans (g5.trans ((grow_of s6).trans (g7.trans (grow_of s8)))), (M7.same s8).up (by omega)⟩
      · rintro σ H4 ⟨t1, f1, rfl, g4, M4⟩
        refine ⟨_, _, _, _, rfl, fun b o e => g4 b o (ne_of_none e hm0) (sm b o e)⟩
    · rintro σ H2 ⟨kk, m0, t0, f0, rfl, s2⟩
      exact k H2
end
end K1
set_option Elab.async false
set_option linter.all false
set_option maxRecDepth 100000
set_option maxHeartbeats 4000000
namespace K1
open PySem L2 Gd PySem.ExG
set_option exponentiation.threshold 10000
/-- an error of the class at S is what «except S» names -/
theorem own_match {K : PySem.W.Frag} {S : Addr} (h1 : PySem.W.subIn K (.ref S) (.type "BaseException") = some true) (h2 : PySem.W.isClsIn K S = true)
    (h3 : PySem.W.typeIn K (.ref S) = some (.type "type")) (h4 : PySem.W.subIn K (.ref S) (.ref S) = some true) : PySem.W.exmOne K (.ref S) (.ref S) = some true := by
  have e1 : (PySem.W.subIn K (.ref S) (.type "BaseException") == some true) = true := by rw [h1] <;> rfl
  have e2 : ((PySem.W.clsIn K S).isSome && PySem.W.typeIn K (.ref S) == some (.type "type")) = true := by
    have h2' : (PySem.W.clsIn K S).isSome = true := h2
    rw [h2', h3] <;> rfl
  show (if (PySem.W.subIn K (.ref S) (.type "BaseException") == some true) = true then
    (if ((PySem.W.clsIn K S).isSome && PySem.W.typeIn K (.ref S) == some (.type "type")) = true then PySem.W.subIn K (.ref S) (.ref S) else none) else none) = some true
  rw [if_pos e1, if_pos e2]
  exact h4
def o8 : Ps := ⟨⟨6, 17, 6, 21⟩, ⟨6, 23, 6, 28⟩, ⟨7, 8, 7, 13⟩, ⟨7, 8, 7, 15⟩, ⟨7, 8, 7, 24⟩, ⟨7, 25, 7, 42⟩, ⟨7, 8, 7, 43⟩, ⟨7, 8, 7, 43⟩, ⟨8, 8, 8, 12⟩, ⟨8, 8, 8, 18⟩, ⟨8, 21, 8, 26⟩, ⟨8, 8, 8, 26⟩⟩
theorem at_mk {K : PySem.W.Frag} {h : Heap} {mg : Str → Option Value} {x : Str} {st : Stmt} {ps : List Str} {f : Addr} {oc : Value} {od an : Option Addr} {osl : Array (Option Value)} {kV doc pm cdv ct : Value}
    (X : K.In h) (G : h.Ns mainGlobals mg) (a : PySem.W.nsIn K mainGlobals x = some (some (.ref f)))
    (l : K.lookup f = some ⟨oc, od, .func (PySem.W.fnOf x x (defArgs st) (defBody st) (defScope st) .none kV doc pm an cdv ct), osl⟩) (c : PySem.W.codeIn K cdv x = true) (k : PySem.W.keepIn K (.ref f) = true)
    (hb : ∀ (kV doc pm : Value) (an : Option Addr) (cdv ct : Value) (us : List Value), us.length = ps.length → bindArgs (PySem.W.fnOf x x (defArgs st) (defBody st) (defScope st) .none kV doc pm an cdv ct) ⟨us, []⟩ = pure (ps.zip us)) :
    At K mg x st ps f (PySem.W.fnOf x x (defArgs st) (defBody st) (defScope st) .none kV doc pm an cdv ct) :=
  have F := fun_mk (st := st) l c k
  ⟨F, PySem.W.mg_of X G a, F.binds hb⟩

theorem all_mk {pr : Program} {w : World} {K : PySem.W.Frag} {h : Heap} {mg : Str → Option Value} {fa C fI cc cda TE : Addr} (X : K.In h) (G : h.Ns mainGlobals mg) (hfa : mg "law" = some (.ref fa))
    {f1 f2 f3 f4 f5 f6 f7 f8 f9 f10 f11 f12 f13 f14 f15 f16 f17 : Addr}
    {od1 an1 od2 an2 od3 an3 od4 an4 od5 an5 od6 an6 od7 an7 od8 an8 od9 an9 od10 an10 od11 an11 od12 an12 od13 an13 od14 an14 od15 an15 od16 an16 od17 an17 : Option Addr} {sl1 sl2 sl3 sl4 sl5 sl6 sl7 sl8 sl9 sl10 sl11 sl12 sl13 sl14 sl15 sl16 sl17 : Array (Option Value)}
    {oc1 kV1 dc1 pm1 cd1 ct1 oc2 kV2 dc2 pm2 cd2 ct2 oc3 kV3 dc3 pm3 cd3 ct3 oc4 kV4 dc4 pm4 cd4 ct4 oc5 kV5 dc5 pm5 cd5 ct5 oc6 kV6 dc6 pm6 cd6 ct6 oc7 kV7 dc7 pm7 cd7 ct7 oc8 kV8 dc8 pm8 cd8 ct8 oc9 kV9 dc9 pm9 cd9 ct9 oc10 kV10 dc10 pm10 cd10 ct10 oc11 kV11 dc11 pm11 cd11 ct11 oc12 kV12 dc12 pm12 cd12 ct12 oc13 kV13 dc13 pm13 cd13 ct13 oc14 kV14 dc14 pm14 cd14 ct14 oc15 kV15 dc15 pm15 cd15 ct15 oc16 kV16 dc16 pm16 cd16 ct16 oc17 kV17 dc17 pm17 cd17 ct17 : Value}
    {tH tT tG tf : Tok} {nm q : Str} {N : Addr} {bs : List Value} {sn : List Str} {sub : List Value} {ab : Bool} {col : Option Bool} {dd : Option Addr} {m0 m1 m2 m3 m5 : Option Value}
    {oc0 doc0 pm0 ct0 cl0 ccl0 : Value} {od0 an0 cld0 cdd0 : Option Addr} {sl0 csl0 ccs0 : Array (Option Value)} {vs0 : Array Value} {file : Str}
    (a1 : PySem.W.nsIn K mainGlobals "is_whole" = some (some (.ref f1)))
    (l1 : K.lookup f1 = some ⟨oc1, od1, .func (PySem.W.fnOf "is_whole" "is_whole" (defArgs sWh) (defBody sWh) (defScope sWh) .none kV1 dc1 pm1 an1 cd1 ct1), sl1⟩)
    (c1 : PySem.W.codeIn K cd1 "is_whole" = true)
    (k1 : PySem.W.keepIn K (.ref f1) = true)
    (a2 : PySem.W.nsIn K mainGlobals "is_between" = some (some (.ref f2)))
    (l2 : K.lookup f2 = some ⟨oc2, od2, .func (PySem.W.fnOf "is_between" "is_between" (defArgs sBet) (defBody sBet) (defScope sBet) .none kV2 dc2 pm2 an2 cd2 ct2), sl2⟩)
    (c2 : PySem.W.codeIn K cd2 "is_between" = true)
    (k2 : PySem.W.keepIn K (.ref f2) = true)
    (a3 : PySem.W.nsIn K mainGlobals "is_gap" = some (some (.ref f3)))
    (l3 : K.lookup f3 = some ⟨oc3, od3, .func (PySem.W.fnOf "is_gap" "is_gap" (defArgs sGap) (defBody sGap) (defScope sGap) .none kV3 dc3 pm3 an3 cd3 ct3), sl3⟩)
    (c3 : PySem.W.codeIn K cd3 "is_gap" = true)
    (k3 : PySem.W.keepIn K (.ref f3) = true)
    (a4 : PySem.W.nsIn K mainGlobals "need_plan" = some (some (.ref f4)))
    (l4 : K.lookup f4 = some ⟨oc4, od4, .func (PySem.W.fnOf "need_plan" "need_plan" (defArgs sNeed) (defBody sNeed) (defScope sNeed) .none kV4 dc4 pm4 an4 cd4 ct4), sl4⟩)
    (c4 : PySem.W.codeIn K cd4 "need_plan" = true)
    (k4 : PySem.W.keepIn K (.ref f4) = true)
    (a5 : PySem.W.nsIn K mainGlobals "_law_begun" = some (some (.ref f5)))
    (l5 : K.lookup f5 = some ⟨oc5, od5, .func (PySem.W.fnOf "_law_begun" "_law_begun" (defArgs sBegun) (defBody sBegun) (defScope sBegun) .none kV5 dc5 pm5 an5 cd5 ct5), sl5⟩)
    (c5 : PySem.W.codeIn K cd5 "_law_begun" = true)
    (k5 : PySem.W.keepIn K (.ref f5) = true)
    (a6 : PySem.W.nsIn K mainGlobals "_law_draw" = some (some (.ref f6)))
    (l6 : K.lookup f6 = some ⟨oc6, od6, .func (PySem.W.fnOf "_law_draw" "_law_draw" (defArgs sDraw) (defBody sDraw) (defScope sDraw) .none kV6 dc6 pm6 an6 cd6 ct6), sl6⟩)
    (c6 : PySem.W.codeIn K cd6 "_law_draw" = true)
    (k6 : PySem.W.keepIn K (.ref f6) = true)
    (a7 : PySem.W.nsIn K mainGlobals "_law_of" = some (some (.ref f7)))
    (l7 : K.lookup f7 = some ⟨oc7, od7, .func (PySem.W.fnOf "_law_of" "_law_of" (defArgs sOf) (defBody sOf) (defScope sOf) .none kV7 dc7 pm7 an7 cd7 ct7), sl7⟩)
    (c7 : PySem.W.codeIn K cd7 "_law_of" = true)
    (k7 : PySem.W.keepIn K (.ref f7) = true)
    (a8 : PySem.W.nsIn K mainGlobals "_law_is_int" = some (some (.ref f8)))
    (l8 : K.lookup f8 = some ⟨oc8, od8, .func (PySem.W.fnOf "_law_is_int" "_law_is_int" (defArgs sIsInt) (defBody sIsInt) (defScope sIsInt) .none kV8 dc8 pm8 an8 cd8 ct8), sl8⟩)
    (c8 : PySem.W.codeIn K cd8 "_law_is_int" = true)
    (k8 : PySem.W.keepIn K (.ref f8) = true)
    (a9 : PySem.W.nsIn K mainGlobals "_law_wrong" = some (some (.ref f9)))
    (l9 : K.lookup f9 = some ⟨oc9, od9, .func (PySem.W.fnOf "_law_wrong" "_law_wrong" (defArgs sWrong) (defBody sWrong) (defScope sWrong) .none kV9 dc9 pm9 an9 cd9 ct9), sl9⟩)
    (c9 : PySem.W.codeIn K cd9 "_law_wrong" = true)
    (k9 : PySem.W.keepIn K (.ref f9) = true)
    (a10 : PySem.W.nsIn K mainGlobals "_law_said" = some (some (.ref f10)))
    (l10 : K.lookup f10 = some ⟨oc10, od10, .func (PySem.W.fnOf "_law_said" "_law_said" (defArgs sSaid) (defBody sSaid) (defScope sSaid) .none kV10 dc10 pm10 an10 cd10 ct10), sl10⟩)
    (c10 : PySem.W.codeIn K cd10 "_law_said" = true)
    (k10 : PySem.W.keepIn K (.ref f10) = true)
    (a11 : PySem.W.nsIn K mainGlobals "_law_right" = some (some (.ref f11)))
    (l11 : K.lookup f11 = some ⟨oc11, od11, .func (PySem.W.fnOf "_law_right" "_law_right" (defArgs sRight) (defBody sRight) (defScope sRight) .none kV11 dc11 pm11 an11 cd11 ct11), sl11⟩)
    (c11 : PySem.W.codeIn K cd11 "_law_right" = true)
    (k11 : PySem.W.keepIn K (.ref f11) = true)
    (a12 : PySem.W.nsIn K mainGlobals "_law_any" = some (some (.ref f12)))
    (l12 : K.lookup f12 = some ⟨oc12, od12, .func (PySem.W.fnOf "_law_any" "_law_any" (defArgs sAny) (defBody sAny) (defScope sAny) .none kV12 dc12 pm12 an12 cd12 ct12), sl12⟩)
    (c12 : PySem.W.codeIn K cd12 "_law_any" = true)
    (k12 : PySem.W.keepIn K (.ref f12) = true)
    (a13 : PySem.W.nsIn K mainGlobals "_law_drawn" = some (some (.ref f13)))
    (l13 : K.lookup f13 = some ⟨oc13, od13, .func (PySem.W.fnOf "_law_drawn" "_law_drawn" (defArgs sDrawn) (defBody sDrawn) (defScope sDrawn) .none kV13 dc13 pm13 an13 cd13 ct13), sl13⟩)
    (c13 : PySem.W.codeIn K cd13 "_law_drawn" = true)
    (k13 : PySem.W.keepIn K (.ref f13) = true)
    (a14 : PySem.W.nsIn K mainGlobals "_law_bent" = some (some (.ref f14)))
    (l14 : K.lookup f14 = some ⟨oc14, od14, .func (PySem.W.fnOf "_law_bent" "_law_bent" (defArgs sBent) (defBody sBent) (defScope sBent) .none kV14 dc14 pm14 an14 cd14 ct14), sl14⟩)
    (c14 : PySem.W.codeIn K cd14 "_law_bent" = true)
    (k14 : PySem.W.keepIn K (.ref f14) = true)
    (a15 : PySem.W.nsIn K mainGlobals "_law_odd" = some (some (.ref f15)))
    (l15 : K.lookup f15 = some ⟨oc15, od15, .func (PySem.W.fnOf "_law_odd" "_law_odd" (defArgs sOdd) (defBody sOdd) (defScope sOdd) .none kV15 dc15 pm15 an15 cd15 ct15), sl15⟩)
    (c15 : PySem.W.codeIn K cd15 "_law_odd" = true)
    (k15 : PySem.W.keepIn K (.ref f15) = true)
    (a16 : PySem.W.nsIn K mainGlobals "_law_hand_right" = some (some (.ref f16)))
    (l16 : K.lookup f16 = some ⟨oc16, od16, .func (PySem.W.fnOf "_law_hand_right" "_law_hand_right" (defArgs sHand) (defBody sHand) (defScope sHand) .none kV16 dc16 pm16 an16 cd16 ct16), sl16⟩)
    (c16 : PySem.W.codeIn K cd16 "_law_hand_right" = true)
    (k16 : PySem.W.keepIn K (.ref f16) = true)
    (a17 : PySem.W.nsIn K mainGlobals "law" = some (some (.ref f17)))
    (l17 : K.lookup f17 = some ⟨oc17, od17, .func (PySem.W.fnOf "law" "law" (defArgs sLaw) (defBody sLaw) (defScope sLaw) .none kV17 dc17 pm17 an17 cd17 ct17), sl17⟩)
    (c17 : PySem.W.codeIn K cd17 "law" = true)
    (k17 : PySem.W.keepIn K (.ref f17) = true)
    (z_isinstance : PySem.W.nsIn K mainGlobals "isinstance" = some none)
    (z_int : PySem.W.nsIn K mainGlobals "int" = some none)
    (z_bool : PySem.W.nsIn K mainGlobals "bool" = some none)
    (z_tuple : PySem.W.nsIn K mainGlobals "tuple" = some none)
    (z_len : PySem.W.nsIn K mainGlobals "len" = some none)
    (z_enumerate : PySem.W.nsIn K mainGlobals "enumerate" = some none)
    (z_repr : PySem.W.nsIn K mainGlobals "repr" = some none)
    (z_range : PySem.W.nsIn K mainGlobals "range" = some none)
    (z_list : PySem.W.nsIn K mainGlobals "list" = some none)
    (z_min : PySem.W.nsIn K mainGlobals "min" = some none)
    (mH : PySem.W.nsIn K mainGlobals "MOST_HANDS" = some (some (.int 3 tH)))
    (mT : PySem.W.nsIn K mainGlobals "MOST_THINGS" = some (some (.int 8 tT)))
    (mG : PySem.W.nsIn K mainGlobals "MOST_GAP" = some (some (.int (10 ^ 30) tG)))
    (aC : PySem.W.nsIn K mainGlobals "BadPlan" = some (some (.ref C)))
    (xL : K.lookup C = some (excClassObj nm q C N bs [.ref TE, .type "ValueError", .type "Exception", .type "BaseException", .type "object"] true sn sub ab col dd m0 m1 m2 m3 m5 "ValueError.__new__"))
    (sa : PySem.W.findIn K (.ref C) "__setattr__" = some (some (.builtin "object.__setattr__")))
    (ga : PySem.W.findIn K (.ref C) "__getattribute__" = some (some (.builtin "BaseException.__getattribute__")))
    (gg : PySem.W.findIn K (.ref C) "__getattr__" = some none)
    (nb : PySem.W.findIn K (.ref C) "place" = some none)
    (aI : PySem.W.findIn K (.ref C) "__init__" = some (some (.ref fI)))
    (tI : PySem.W.typeIn K (.ref fI) = some (.type "function"))
    (lI : K.lookup fI = some ⟨oc0, od0, .func (PySem.W.ksFn "__init__" "BadPlan.__init__" (eA "place" o8) (eB "place" "this is no plan" o8) (eS "place") .none .none doc0 pm0 an0 (.ref cda) ct0 cc), sl0⟩)
    (cI : PySem.W.codeIn K (.ref cda) "BadPlan.__init__" = true)
    (lc : K.lookup cc = some ⟨cl0, cld0, .cell (some (.ref C)), csl0⟩)
    (ld : K.lookup cda = some ⟨ccl0, cdd0, .fields vs0, ccs0⟩)
    (lv : vs0[2]? = some (.str file tf))
    (lf : ((pr.main.file : Str) == file) = true)
    (tp : (pr.main.scope.names.lookup ("super" : Str)).isSome = false)
    (kC : PySem.W.keepIn K (.ref C) = true)
    (eC : PySem.W.subIn K (.ref C) (.type "BaseException") = some true)
    (tC : PySem.W.typeIn K (.ref C) = some (.type "type"))
    (hC : PySem.W.hasDictIn K C = true)
    (iC : PySem.W.isClsIn K C = true)
    (sC : PySem.W.subIn K (.ref C) (.ref C) = some true)
    (su : PySem.W.ks_superIn K C C "__init__" = some (some (.builtin "ValueError.__init__")))
    (sV : PySem.W.subIn K (.ref C) (.type "ValueError") = some true)
    (mC : PySem.W.mroIn K C (.ref C) = some true)
    (op : PySem.W.nsIn K cStatics "thirdparty.any" = some none)
    (ns : PySem.W.nsIn K mainGlobals "super" = some none)
    : ∃ fd : FuncData, (∀ (s : Shared) (v : Value), BindsTo s fd ⟨[v], []⟩ [("script", v)]) ∧ ∀ base : Heap, K.In base → base.Ns mainGlobals mg → (∃ o, base.get? sysModules = some o) → FnG pr w K mg base CX0 8 fa fd ["script"] (spLaw K) := by
  have e := hfa.symm.trans (PySem.W.mg_of X G a17)
  cases e
  have A1 := at_mk (st := sWh) (ps := ["value"]) X G a1 l1 c1 k1 (fun _ _ _ _ _ _ us hl => match us, hl with | [_], _ => rfl)
  have A2 := at_mk (st := sBet) (ps := ["value", "low", "high"]) X G a2 l2 c2 k2 (fun _ _ _ _ _ _ us hl => match us, hl with | [_, _, _], _ => rfl)
  have A3 := at_mk (st := sGap) (ps := ["value"]) X G a3 l3 c3 k3 (fun _ _ _ _ _ _ us hl => match us, hl with | [_], _ => rfl)
  have A4 := at_mk (st := sNeed) (ps := ["thing"]) X G a4 l4 c4 k4 (fun _ _ _ _ _ _ us hl => match us, hl with | [_], _ => rfl)
  have A5 := at_mk (st := sBegun) (ps := ["script", "k"]) X G a5 l5 c5 k5 (fun _ _ _ _ _ _ us hl => match us, hl with | [_, _], _ => rfl)
  have A6 := at_mk (st := sDraw) (ps := ["m", "many"]) X G a6 l6 c6 k6 (fun _ _ _ _ _ _ us hl => match us, hl with | [_, _], _ => rfl)
  have A7 := at_mk (st := sOf) (ps := ["m", "some"]) X G a7 l7 c7 k7 (fun _ _ _ _ _ _ us hl => match us, hl with | [_, _], _ => rfl)
  have A8 := at_mk (st := sIsInt) (ps := ["thing", "least", "most"]) X G a8 l8 c8 k8 (fun _ _ _ _ _ _ us hl => match us, hl with | [_, _, _], _ => rfl)
  have A9 := at_mk (st := sWrong) (ps := ["thing"]) X G a9 l9 c9 k9 (fun _ _ _ _ _ _ us hl => match us, hl with | [_], _ => rfl)
  have A10 := at_mk (st := sSaid) (ps := ["thing"]) X G a10 l10 c10 k10 (fun _ _ _ _ _ _ us hl => match us, hl with | [_], _ => rfl)
  have A11 := at_mk (st := sRight) (ps := ["thing"]) X G a11 l11 c11 k11 (fun _ _ _ _ _ _ us hl => match us, hl with | [_], _ => rfl)
  have A12 := at_mk (st := sAny) (ps := ["m"]) X G a12 l12 c12 k12 (fun _ _ _ _ _ _ us hl => match us, hl with | [_], _ => rfl)
  have A13 := at_mk (st := sDrawn) (ps := ["m"]) X G a13 l13 c13 k13 (fun _ _ _ _ _ _ us hl => match us, hl with | [_], _ => rfl)
  have A14 := at_mk (st := sBent) (ps := ["m", "sheet"]) X G a14 l14 c14 k14 (fun _ _ _ _ _ _ us hl => match us, hl with | [_, _], _ => rfl)
  have A15 := at_mk (st := sOdd) (ps := ["m", "frame"]) X G a15 l15 c15 k15 (fun _ _ _ _ _ _ us hl => match us, hl with | [_, _], _ => rfl)
  have A16 := at_mk (st := sHand) (ps := []) X G a16 l16 c16 k16 (fun _ _ _ _ _ _ us hl => match us, hl with | [], _ => rfl)
  have A17 := at_mk (st := sLaw) (ps := ["script"]) X G a17 l17 c17 k17 (fun _ _ _ _ _ _ us hl => match us, hl with | [_], _ => rfl)
  have Z_isinstance := PySem.W.mg_none_of X G z_isinstance
  have Z_int := PySem.W.mg_none_of X G z_int
  have Z_bool := PySem.W.mg_none_of X G z_bool
  have Z_tuple := PySem.W.mg_none_of X G z_tuple
  have Z_len := PySem.W.mg_none_of X G z_len
  have Z_enumerate := PySem.W.mg_none_of X G z_enumerate
  have Z_repr := PySem.W.mg_none_of X G z_repr
  have Z_range := PySem.W.mg_none_of X G z_range
  have Z_list := PySem.W.mg_none_of X G z_list
  have Z_min := PySem.W.mg_none_of X G z_min
  have ex : ExTxt pr K mg "BadPlan" "place" "this is no plan" C fI :=
    { gC := PySem.W.mg_of X G aC, cls := ⟨nm, q, N, bs, _, sn, sub, ab, col, dd, m0, m1, m2, m3, m5, xL, by first | rfl | decide⟩, sa := sa, ga := ga, gg := gg, noN := nb, iC := aI, tC := tI, kC := kC, exC := eC, tyC := tC, hdC := hC,
      te := own_match eC iC tC sC, sup := su, subV := sV, subm := mC, opq := op, nos := ns, top := tp,
      fn := ⟨_, _, _, _, _, _, _, _, _, _, _, _, _, _, _, _, _, _, _, _, lI, cI, by rfl, lc, ld, lv, lf⟩,
      kf := by decide +kernel, ks := by decide +kernel, kc := by decide +kernel, fdb := by decide +kernel, fse := by decide +kernel, bnd := fun _ _ _ _ _ _ _ _ _ _ => by rfl }
  have txi : TxI mg := ⟨Z_isinstance, Z_int, Z_bool⟩
  have txt : Txt K mg := ⟨Z_int, Z_len⟩
  have tn := TxN.mk (K := K) (pr := pr) txi Z_tuple Z_len Z_enumerate ⟨tH, PySem.W.mg_of X G mH⟩ ⟨tT, PySem.W.mg_of X G mT⟩ ⟨tG, PySem.W.mg_of X G mG⟩ ⟨_, _, A1⟩ A2 A3 ex
  have tw := TxW.mk txi Z_tuple Z_len Z_enumerate A8
  have ts := TxS.mk tn A4
  have tr := TxR.mk ts tw A10 A9 Z_repr Z_range
  have td := TxD.mk txt A6
  have to := TxO.mk td A7
  have tb := TxB.mk to A12 Z_list
  have tod := TxOd.mk tb A14 Z_tuple Z_isinstance
  have tdr := TxDr.mk to Z_tuple Z_range
  have th := TxH.mk ts A10 Z_repr
  have T := TxLaw.mk tr th tod tdr A5 A13 A15 A11 A16 Z_min
  exact ⟨_, fun s v => .of_eq rfl, fun base _ _ sy => ok_law A17.F T sy⟩
end K1
open PySem PySem.W PyProof.Rows
set_option maxRecDepth 100000 in
set_option maxHeartbeats 0 in
theorem PySem.Challenge.cw_oftenenough_k01_whole_plans_judged_holds : PySem.Challenge.rw_oftenenough_k01_whole_plans_judged.Holds := by
  w_on; o_law; k_head; (case hw => w_witness2)
  k_fill
  refine Gd.walkG (l := PySem.Challenge.rw_oftenenough_k01_whole_plans_judged) (n := 63) (k := 8) (x := "script") (sp := fun w => K1.spLaw (_ : PySem.W.Frag)) (by first | rfl | decide +kernel) rfl (by decide) rfl ⟨rfl, by decide, by decide⟩ (fun w h Y => PySem.W.kIn_of Y) ?F (fun w H a ns hl _ hS => ⟨a, ns, rfl, hS, hl, fun _ => rfl⟩)
  case F =>
    intro w mg fa h KX G hmg
    refine' K1.all_mk KX G hmg ?a1 ?l1 ?c1 ?k1 ?a2 ?l2 ?c2 ?k2 ?a3 ?l3 ?c3 ?k3 ?a4 ?l4 ?c4 ?k4 ?a5 ?l5 ?c5 ?k5 ?a6 ?l6 ?c6 ?k6 ?a7 ?l7 ?c7 ?k7 ?a8 ?l8 ?c8 ?k8 ?a9 ?l9 ?c9 ?k9 ?a10 ?l10 ?c10 ?k10 ?a11 ?l11 ?c11 ?k11 ?a12 ?l12 ?c12 ?k12 ?a13 ?l13 ?c13 ?k13 ?a14 ?l14 ?c14 ?k14 ?a15 ?l15 ?c15 ?k15 ?a16 ?l16 ?c16 ?k16 ?a17 ?l17 ?c17 ?k17 ?z_isinstance ?z_int ?z_bool ?z_tuple ?z_len ?z_enumerate ?z_repr ?z_range ?z_list ?z_min ?mH ?mT ?mG ?aC ?xL ?sa ?ga ?gg ?nb ?aI ?tI ?lI ?cI ?lc ?ld ?lv ?lf ?tp ?kC ?eC ?tC ?hC ?iC ?sC ?su ?sV ?mC ?op ?ns
    (case a1 => k_is)
    (case l1 => k_is)
    (case c1 => k_is)
    (case k1 => k_is)
    (case a2 => k_is)
    (case l2 => k_is)
    (case c2 => k_is)
    (case k2 => k_is)
    (case a3 => k_is)
    (case l3 => k_is)
    (case c3 => k_is)
    (case k3 => k_is)
    (case a4 => k_is)
    (case l4 => k_is)
    (case c4 => k_is)
    (case k4 => k_is)
    (case a5 => k_is)
    (case l5 => k_is)
    (case c5 => k_is)
    (case k5 => k_is)
    (case a6 => k_is)
    (case l6 => k_is)
    (case c6 => k_is)
    (case k6 => k_is)
    (case a7 => k_is)
    (case l7 => k_is)
    (case c7 => k_is)
    (case k7 => k_is)
    (case a8 => k_is)
    (case l8 => k_is)
    (case c8 => k_is)
    (case k8 => k_is)
    (case a9 => k_is)
    (case l9 => k_is)
    (case c9 => k_is)
    (case k9 => k_is)
    (case a10 => k_is)
    (case l10 => k_is)
    (case c10 => k_is)
    (case k10 => k_is)
    (case a11 => k_is)
    (case l11 => k_is)
    (case c11 => k_is)
    (case k11 => k_is)
    (case a12 => k_is)
    (case l12 => k_is)
    (case c12 => k_is)
    (case k12 => k_is)
    (case a13 => k_is)
    (case l13 => k_is)
    (case c13 => k_is)
    (case k13 => k_is)
    (case a14 => k_is)
    (case l14 => k_is)
    (case c14 => k_is)
    (case k14 => k_is)
    (case a15 => k_is)
    (case l15 => k_is)
    (case c15 => k_is)
    (case k15 => k_is)
    (case a16 => k_is)
    (case l16 => k_is)
    (case c16 => k_is)
    (case k16 => k_is)
    (case a17 => k_is)
    (case l17 => k_is)
    (case c17 => k_is)
    (case k17 => k_is)
    (case z_isinstance => k_is)
    (case z_int => k_is)
    (case z_bool => k_is)
    (case z_tuple => k_is)
    (case z_len => k_is)
    (case z_enumerate => k_is)
    (case z_repr => k_is)
    (case z_range => k_is)
    (case z_list => k_is)
    (case z_min => k_is)
    (case mH => k_is)
    (case mT => k_is)
    (case mG => k_is)
    (case aC => k_is)
    (case xL => k_is)
    (case sa => k_is)
    (case ga => k_is)
    (case gg => k_is)
    (case nb => k_is)
    (case aI => k_is)
    (case tI => k_is)
    (case lI => k_is)
    (case cI => k_is)
    (case lc => k_is)
    (case ld => k_is)
    (case lv => rfl)
    (case lf => (first | rfl | decide +kernel))
    (case tp => (first | rfl | decide +kernel))
    (case kC => k_is)
    (case eC => k_is)
    (case tC => k_is)
    (case hC => k_is)
    (case iC => k_is)
    (case sC => (first | rfl | k_is))
    (case su => (first | k_is | kernel_rfl))
    (case sV => k_is)
    (case mC => (first | rfl | k_is))
    (case op => k_is)
    (case ns => k_is)
